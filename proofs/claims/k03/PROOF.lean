import PyProof.Rows.All
import Wide.All
import OpenK.AllK
import Wide.FinOn
import Lean
import PyProof.EqAt
import PyProof.EqKinds
import PyProof.TupleCall
import KE.KTryMore
import KE.KRevIter
import KE.KSortTup
import KE.KDictSum
import KE.KRevSl
import PyProof.Rows.TupDisplay
import PyProof.EnumFor
import PyProof.EnumMake
import PyProof.EnumStmt
import PyProof.DictUpdate
import PyProof.AttrMissSeq
import KE.KDictOf
import PyProof.ListStr
import PyProof.SetScanFacts
import PyProof.Rows.SetFrom
import PyProof.TupleKey
import KE.LcSums
import PySem.Challenge.RW_cellpatches_k03_whole_boards
set_option Elab.async false
set_option linter.all false
set_option maxRecDepth 100000
namespace L2
open PySem
def c6(s:Stmt):Arguments:=match s with
 | .FunctionDef _ a _ _ _ _ _ _ _ _=>a
 |_=>{posonlyargs:=[],args:=[],vararg:=none,kwonlyargs:=[],kw_defaults:=[],kwarg:=none,defaults:=[]}
def aO(s:Stmt):List Stmt:=match s with
 | .FunctionDef _ _ b _ _ _ _ _ _ _=>b
 |_=>[]
def af(s:Stmt):Scope:=match s with
 | .FunctionDef _ _ _ _ _ _ sc _ _ _=>sc
 |_=>{kind:= .function,names:=[],isGenerator:=false,isCoroutine:=false}
end L2
namespace K1
open PySem PySem.Spec
def top(i:Nat):Stmt:=PySem.Challenge.pw_cellpatches_k03_whole_boards.main.body.getD i (.Pass ⟨0,0,0,0⟩)
abbrev hS(s:String)(t:Tok):Value:= .str (Str.ofString s) t
abbrev hE(P:Params)(s:String)(t:Tok)(v:Value):DictEntry:={hash:=PyData.keyHash P (Str.ofString s),key:=hS s t,val:=v}
abbrev hT(xs:Array Value):Obj:={cls:= .type "tuple",data:=Data.seq xs}
abbrev hF(s:String)(t:Stmt)(m:Value)(c:Addr):Obj:={cls:= .type "function",data:=Data.func {name:=Str.ofString s,qualname:=Str.ofString s,params:=L2.c6 t,body:=FuncBody.stmts (L2.aO t),scope:=L2.af t,globals:=3,closure:=[],defaults:= .none,kwdefaults:= .none,pyModule:=m,code:= .ref c} }
def lb:Params→W.Frag:=fun P=>(nat_lit 2,{cls:= .none,data:=Data.dict #[]})::
 (nat_lit 3,{cls:= .type "dict",data:=Data.dict #[hE P "__name__" 165 (hS "law_cellpatches_k03_whole_boards" 492),hE P "__doc__" 166 .none,hE P "__package__" 167 .none,hE P "__loader__" 168 (.builtin "__main__.__loader__#opaque"),hE P "__spec__" 169 .none,hE P "__annotations__" 170 (.ref 6),hE P "__builtins__" 171 (.ref 4),hE P "__file__" 173 (hS "/claim/cut.py" 172),hE P "__cached__" 174 .none,hE P "PatchError" 206 (.ref 24),hE P "NoBoard" 222 (.ref 37),hE P "NoWays" 238 (.ref 49),hE P "NoCell" 254 (.ref 61),hE P "NoLetter" 270 (.ref 73),hE P "NoFit" 286 (.ref 85),hE P "LETTERS" 290 (hS "abcdef" 289),hE P "MOST_ROWS" 292 (.int 8 291),hE P "MOST_COLUMNS" 294 (.int 8 293),hE P "is_whole" 301 (.ref 94),hE P "is_letter" 308 (.ref 101),hE P "is_row" 314 (.ref 106),hE P "is_board" 320 (.ref 111),hE P "is_cell" 328 (.ref 118),hE P "need_board" 335 (.ref 125),hE P "need_cell" 343 (.ref 132),hE P "need_letter" 350 (.ref 139),hE P "need_ways" 357 (.ref 146),hE P "need_fit" 365 (.ref 153),hE P "cells_of_row" 371 (.ref 158),hE P "all_cells" 380 (.ref 165),hE P "letter_of" 388 (.ref 172),hE P "are_next" 399 (.ref 179),hE P "next_cells" 411 (.ref 186),hE P "keyed" 420 (.ref 193),hE P "with_letters" 426 (.ref 198),hE P "cells" 433 (.ref 205),hE P "letter_at" 441 (.ref 212),hE P "with_letter" 450 (.ref 219),hE P "beside" 459 (.ref 226),hE P "column_from_below" 465 (.ref 231),hE P "turned" 471 (.ref 236),hE P "mirrored" 477 (.ref 241),hE P "stacked" 485 (.ref 248),hE P "letters" 491 (.ref 253),hE P "_law_cell" 501 (.ref 260),hE P "_law_drawn" 511 (.ref 267),hE P "_law_board" 517 (.ref 272),hE P "_law_cell_in" 526 (.ref 279),hE P "_law_is_put" 532 (.ref 284),hE P "law" 538 (.ref 289)] 50})::
 (nat_lit 15,hT #[.type "ValueError"])::
 (nat_lit 22,hT #[])::
 (nat_lit 23,{cls:= .type "dict",data:=Data.dict #[hE P "__module__" 196 (hS "cellpatches.errors" 187),hE P "__firstlineno__" 200 (.int 2 199),hE P "__static_attributes__" 201 (.ref 22),hE P "__weakref__" 203 (.ref 25),hE P "__doc__" 204 .none] 3})::
 (nat_lit 24,{cls:= .type "type",data:=Data.cls {name:=Str.ofString "PatchError",bases:=[.type "ValueError"],mro:=[.ref 24, .type "ValueError", .type "Exception", .type "BaseException", .type "object"],ns:=23,qualname:=Str.ofString "PatchError",subclasses:=[.ref 37, .ref 49, .ref 61, .ref 73, .ref 85]},slots:= #[some (.ref 15),none,some (hS "PatchError" 189),some (hS "PatchError" 197),some (.builtin "ValueError.__new__"),some (.bool true)]})::
 (nat_lit 25,{cls:= .type "getset_descriptor",data:=Data.fields #[hS "__weakref__" 202, .ref 24, .builtin "ExceptionGroup.__weakref__", .none]})::
 (nat_lit 28,hT #[.ref 24])::
 (nat_lit 35,hT #[])::
 (nat_lit 36,{cls:= .type "dict",data:=Data.dict #[hE P "__module__" 214 (hS "cellpatches.errors" 187),hE P "__firstlineno__" 218 (.int 4 217),hE P "__static_attributes__" 219 (.ref 35),hE P "__doc__" 220 .none] 2})::
 (nat_lit 37,{cls:= .type "type",data:=Data.cls {name:=Str.ofString "NoBoard",bases:=[.ref 24],mro:=[.ref 37, .ref 24, .type "ValueError", .type "Exception", .type "BaseException", .type "object"],ns:=36,qualname:=Str.ofString "NoBoard"},slots:= #[some (.ref 28),none,some (hS "NoBoard" 207),some (hS "NoBoard" 215),some (.builtin "ValueError.__new__"),some (.bool true)]})::
 (nat_lit 40,hT #[.ref 24])::
 (nat_lit 47,hT #[])::
 (nat_lit 48,{cls:= .type "dict",data:=Data.dict #[hE P "__module__" 230 (hS "cellpatches.errors" 187),hE P "__firstlineno__" 234 (.int 6 233),hE P "__static_attributes__" 235 (.ref 47),hE P "__doc__" 236 .none] 2})::
 (nat_lit 49,{cls:= .type "type",data:=Data.cls {name:=Str.ofString "NoWays",bases:=[.ref 24],mro:=[.ref 49, .ref 24, .type "ValueError", .type "Exception", .type "BaseException", .type "object"],ns:=48,qualname:=Str.ofString "NoWays"},slots:= #[some (.ref 40),none,some (hS "NoWays" 223),some (hS "NoWays" 231),some (.builtin "ValueError.__new__"),some (.bool true)]})::
 (nat_lit 52,hT #[.ref 24])::
 (nat_lit 59,hT #[])::
 (nat_lit 60,{cls:= .type "dict",data:=Data.dict #[hE P "__module__" 246 (hS "cellpatches.errors" 187),hE P "__firstlineno__" 250 (.int 8 249),hE P "__static_attributes__" 251 (.ref 59),hE P "__doc__" 252 .none] 2})::
 (nat_lit 61,{cls:= .type "type",data:=Data.cls {name:=Str.ofString "NoCell",bases:=[.ref 24],mro:=[.ref 61, .ref 24, .type "ValueError", .type "Exception", .type "BaseException", .type "object"],ns:=60,qualname:=Str.ofString "NoCell"},slots:= #[some (.ref 52),none,some (hS "NoCell" 239),some (hS "NoCell" 247),some (.builtin "ValueError.__new__"),some (.bool true)]})::
 (nat_lit 64,hT #[.ref 24])::
 (nat_lit 71,hT #[])::
 (nat_lit 72,{cls:= .type "dict",data:=Data.dict #[hE P "__module__" 262 (hS "cellpatches.errors" 187),hE P "__firstlineno__" 266 (.int 10 265),hE P "__static_attributes__" 267 (.ref 71),hE P "__doc__" 268 .none] 2})::
 (nat_lit 73,{cls:= .type "type",data:=Data.cls {name:=Str.ofString "NoLetter",bases:=[.ref 24],mro:=[.ref 73, .ref 24, .type "ValueError", .type "Exception", .type "BaseException", .type "object"],ns:=72,qualname:=Str.ofString "NoLetter"},slots:= #[some (.ref 64),none,some (hS "NoLetter" 255),some (hS "NoLetter" 263),some (.builtin "ValueError.__new__"),some (.bool true)]})::
 (nat_lit 76,hT #[.ref 24])::
 (nat_lit 83,hT #[])::
 (nat_lit 84,{cls:= .type "dict",data:=Data.dict #[hE P "__module__" 278 (hS "cellpatches.errors" 187),hE P "__firstlineno__" 282 (.int 12 281),hE P "__static_attributes__" 283 (.ref 83),hE P "__doc__" 284 .none] 2})::
 (nat_lit 85,{cls:= .type "type",data:=Data.cls {name:=Str.ofString "NoFit",bases:=[.ref 24],mro:=[.ref 85, .ref 24, .type "ValueError", .type "Exception", .type "BaseException", .type "object"],ns:=84,qualname:=Str.ofString "NoFit"},slots:= #[some (.ref 76),none,some (hS "NoFit" 271),some (hS "NoFit" 279),some (.builtin "ValueError.__new__"),some (.bool true)]})::
 (nat_lit 88,hT #[])::
 (nat_lit 90,hT #[hS "thing" 298])::
 (nat_lit 91,hT #[])::
 (nat_lit 93,{cls:= .type "code",data:=Data.fields #[hS "is_whole" 295,hS "is_whole" 296,hS "/claim/cut.py" 297, .int 18 0, .int 1 0, .int 0 0, .int 0 0, .int 3 0, .ref 88, .bool true, .int 181 0, .ref 89, .none, .ref 90, .ref 91, .ref 92, .int 299 0, .int 18 0,hS "/claim/cut.py" 300]})::
 (nat_lit 94,hF "is_whole" (top 11) (hS "cellpatches.boards" 287) 93)::
 (nat_lit 95,hT #[])::
 (nat_lit 97,hT #[hS "thing" 305])::
 (nat_lit 98,hT #[])::
 (nat_lit 100,{cls:= .type "code",data:=Data.fields #[hS "is_letter" 302,hS "is_letter" 303,hS "/claim/cut.py" 304, .int 20 0, .int 1 0, .int 0 0, .int 0 0, .int 3 0, .ref 95, .bool true, .int 181 0, .ref 96, .none, .ref 97, .ref 98, .ref 99, .int 306 0, .int 20 0,hS "/claim/cut.py" 307]})::
 (nat_lit 101,hF "is_letter" (top 12) (hS "cellpatches.boards" 287) 100)::
 (nat_lit 102,hT #[])::
 (nat_lit 105,{cls:= .type "code",data:=Data.fields #[hS "is_row" 309,hS "is_row" 310,hS "/claim/cut.py" 311, .int 22 0, .int 1 0, .int 0 0, .int 0 0, .int 3 0, .ref 102, .bool true, .int 181 0, .ref 103, .none, .none, .none, .ref 104, .int 312 0, .int 22 0,hS "/claim/cut.py" 313]})::
 (nat_lit 106,hF "is_row" (top 13) (hS "cellpatches.boards" 287) 105)::
 (nat_lit 107,hT #[])::
 (nat_lit 110,{cls:= .type "code",data:=Data.fields #[hS "is_board" 315,hS "is_board" 316,hS "/claim/cut.py" 317, .int 26 0, .int 1 0, .int 0 0, .int 0 0, .int 3 0, .ref 107, .bool true, .int 181 0, .ref 108, .none, .none, .none, .ref 109, .int 318 0, .int 26 0,hS "/claim/cut.py" 319]})::
 (nat_lit 111,hF "is_board" (top 14) (hS "cellpatches.boards" 287) 110)::
 (nat_lit 112,hT #[])::
 (nat_lit 114,hT #[hS "board" 324,hS "thing" 325])::
 (nat_lit 115,hT #[])::
 (nat_lit 117,{cls:= .type "code",data:=Data.fields #[hS "is_cell" 321,hS "is_cell" 322,hS "/claim/cut.py" 323, .int 32 0, .int 2 0, .int 0 0, .int 0 0, .int 3 0, .ref 112, .bool true, .int 181 0, .ref 113, .none, .ref 114, .ref 115, .ref 116, .int 326 0, .int 32 0,hS "/claim/cut.py" 327]})::
 (nat_lit 118,hF "is_cell" (top 15) (hS "cellpatches.boards" 287) 117)::
 (nat_lit 119,hT #[])::
 (nat_lit 121,hT #[hS "thing" 332])::
 (nat_lit 122,hT #[])::
 (nat_lit 124,{cls:= .type "code",data:=Data.fields #[hS "need_board" 329,hS "need_board" 330,hS "/claim/cut.py" 331, .int 38 0, .int 1 0, .int 0 0, .int 0 0, .int 3 0, .ref 119, .bool true, .int 181 0, .ref 120, .none, .ref 121, .ref 122, .ref 123, .int 333 0, .int 38 0,hS "/claim/cut.py" 334]})::
 (nat_lit 125,hF "need_board" (top 16) (hS "cellpatches.boards" 287) 124)::
 (nat_lit 126,hT #[])::
 (nat_lit 128,hT #[hS "board" 339,hS "thing" 340])::
 (nat_lit 129,hT #[])::
 (nat_lit 131,{cls:= .type "code",data:=Data.fields #[hS "need_cell" 336,hS "need_cell" 337,hS "/claim/cut.py" 338, .int 41 0, .int 2 0, .int 0 0, .int 0 0, .int 3 0, .ref 126, .bool true, .int 181 0, .ref 127, .none, .ref 128, .ref 129, .ref 130, .int 341 0, .int 41 0,hS "/claim/cut.py" 342]})::
 (nat_lit 132,hF "need_cell" (top 17) (hS "cellpatches.boards" 287) 131)::
 (nat_lit 133,hT #[])::
 (nat_lit 135,hT #[hS "thing" 347])::
 (nat_lit 136,hT #[])::
 (nat_lit 138,{cls:= .type "code",data:=Data.fields #[hS "need_letter" 344,hS "need_letter" 345,hS "/claim/cut.py" 346, .int 44 0, .int 1 0, .int 0 0, .int 0 0, .int 3 0, .ref 133, .bool true, .int 181 0, .ref 134, .none, .ref 135, .ref 136, .ref 137, .int 348 0, .int 44 0,hS "/claim/cut.py" 349]})::
 (nat_lit 139,hF "need_letter" (top 18) (hS "cellpatches.boards" 287) 138)::
 (nat_lit 140,hT #[])::
 (nat_lit 142,hT #[hS "thing" 354])::
 (nat_lit 143,hT #[])::
 (nat_lit 145,{cls:= .type "code",data:=Data.fields #[hS "need_ways" 351,hS "need_ways" 352,hS "/claim/cut.py" 353, .int 47 0, .int 1 0, .int 0 0, .int 0 0, .int 3 0, .ref 140, .bool true, .int 181 0, .ref 141, .none, .ref 142, .ref 143, .ref 144, .int 355 0, .int 47 0,hS "/claim/cut.py" 356]})::
 (nat_lit 146,hF "need_ways" (top 19) (hS "cellpatches.boards" 287) 145)::
 (nat_lit 147,hT #[])::
 (nat_lit 149,hT #[hS "one" 361,hS "other" 362])::
 (nat_lit 150,hT #[])::
 (nat_lit 152,{cls:= .type "code",data:=Data.fields #[hS "need_fit" 358,hS "need_fit" 359,hS "/claim/cut.py" 360, .int 50 0, .int 2 0, .int 0 0, .int 0 0, .int 3 0, .ref 147, .bool true, .int 181 0, .ref 148, .none, .ref 149, .ref 150, .ref 151, .int 363 0, .int 50 0,hS "/claim/cut.py" 364]})::
 (nat_lit 153,hF "need_fit" (top 20) (hS "cellpatches.boards" 287) 152)::
 (nat_lit 154,hT #[])::
 (nat_lit 157,{cls:= .type "code",data:=Data.fields #[hS "cells_of_row" 366,hS "cells_of_row" 367,hS "/claim/cut.py" 368, .int 55 0, .int 2 0, .int 0 0, .int 0 0, .int 3 0, .ref 154, .bool true, .int 181 0, .ref 155, .none, .none, .none, .ref 156, .int 369 0, .int 55 0,hS "/claim/cut.py" 370]})::
 (nat_lit 158,hF "cells_of_row" (top 21) (hS "cellpatches.boards" 287) 157)::
 (nat_lit 159,hT #[])::
 (nat_lit 161,hT #[hS "board" 375,hS "found" 376,hS "row" 377])::
 (nat_lit 162,hT #[])::
 (nat_lit 164,{cls:= .type "code",data:=Data.fields #[hS "all_cells" 372,hS "all_cells" 373,hS "/claim/cut.py" 374, .int 57 0, .int 1 0, .int 0 0, .int 0 0, .int 3 0, .ref 159, .bool true, .int 181 0, .ref 160, .none, .ref 161, .ref 162, .ref 163, .int 378 0, .int 57 0,hS "/claim/cut.py" 379]})::
 (nat_lit 165,hF "all_cells" (top 22) (hS "cellpatches.boards" 287) 164)::
 (nat_lit 166,hT #[])::
 (nat_lit 168,hT #[hS "board" 384,hS "cell" 385])::
 (nat_lit 169,hT #[])::
 (nat_lit 171,{cls:= .type "code",data:=Data.fields #[hS "letter_of" 381,hS "letter_of" 382,hS "/claim/cut.py" 383, .int 62 0, .int 2 0, .int 0 0, .int 0 0, .int 3 0, .ref 166, .bool true, .int 181 0, .ref 167, .none, .ref 168, .ref 169, .ref 170, .int 386 0, .int 62 0,hS "/claim/cut.py" 387]})::
 (nat_lit 172,hF "letter_of" (top 23) (hS "cellpatches.boards" 287) 171)::
 (nat_lit 173,hT #[])::
 (nat_lit 175,hT #[hS "one" 392,hS "other" 393,hS "ways" 394,hS "down" 395,hS "along" 396])::
 (nat_lit 176,hT #[])::
 (nat_lit 178,{cls:= .type "code",data:=Data.fields #[hS "are_next" 389,hS "are_next" 390,hS "/claim/cut.py" 391, .int 64 0, .int 3 0, .int 0 0, .int 0 0, .int 3 0, .ref 173, .bool true, .int 181 0, .ref 174, .none, .ref 175, .ref 176, .ref 177, .int 397 0, .int 64 0,hS "/claim/cut.py" 398]})::
 (nat_lit 179,hF "are_next" (top 24) (hS "cellpatches.boards" 287) 178)::
 (nat_lit 180,hT #[])::
 (nat_lit 182,hT #[hS "board" 403,hS "cell" 404,hS "ways" 405,hS "found" 406,hS "row" 407,hS "column" 408])::
 (nat_lit 183,hT #[])::
 (nat_lit 185,{cls:= .type "code",data:=Data.fields #[hS "next_cells" 400,hS "next_cells" 401,hS "/claim/cut.py" 402, .int 70 0, .int 3 0, .int 0 0, .int 0 0, .int 3 0, .ref 180, .bool true, .int 181 0, .ref 181, .none, .ref 182, .ref 183, .ref 184, .int 409 0, .int 70 0,hS "/claim/cut.py" 410]})::
 (nat_lit 186,hF "next_cells" (top 25) (hS "cellpatches.boards" 287) 185)::
 (nat_lit 187,hT #[])::
 (nat_lit 189,hT #[hS "things" 415,hS "found" 416,hS "thing" 417])::
 (nat_lit 190,hT #[])::
 (nat_lit 192,{cls:= .type "code",data:=Data.fields #[hS "keyed" 412,hS "keyed" 413,hS "/claim/cut.py" 414, .int 77 0, .int 1 0, .int 0 0, .int 0 0, .int 3 0, .ref 187, .bool true, .int 181 0, .ref 188, .none, .ref 189, .ref 190, .ref 191, .int 418 0, .int 77 0,hS "/claim/cut.py" 419]})::
 (nat_lit 193,hF "keyed" (top 26) (hS "cellpatches.boards" 287) 192)::
 (nat_lit 194,hT #[])::
 (nat_lit 197,{cls:= .type "code",data:=Data.fields #[hS "with_letters" 421,hS "with_letters" 422,hS "/claim/cut.py" 423, .int 82 0, .int 3 0, .int 0 0, .int 0 0, .int 3 0, .ref 194, .bool true, .int 181 0, .ref 195, .none, .none, .none, .ref 196, .int 424 0, .int 82 0,hS "/claim/cut.py" 425]})::
 (nat_lit 198,hF "with_letters" (top 27) (hS "cellpatches.boards" 287) 197)::
 (nat_lit 199,hT #[])::
 (nat_lit 201,hT #[hS "board" 430])::
 (nat_lit 202,hT #[])::
 (nat_lit 204,{cls:= .type "code",data:=Data.fields #[hS "cells" 427,hS "cells" 428,hS "/claim/cut.py" 429, .int 89 0, .int 1 0, .int 0 0, .int 0 0, .int 3 0, .ref 199, .bool true, .int 181 0, .ref 200, .none, .ref 201, .ref 202, .ref 203, .int 431 0, .int 89 0,hS "/claim/cut.py" 432]})::
 (nat_lit 205,hF "cells" (top 28) (hS "cellpatches.boards" 287) 204)::
 (nat_lit 206,hT #[])::
 (nat_lit 208,hT #[hS "board" 437,hS "cell" 438])::
 (nat_lit 209,hT #[])::
 (nat_lit 211,{cls:= .type "code",data:=Data.fields #[hS "letter_at" 434,hS "letter_at" 435,hS "/claim/cut.py" 436, .int 92 0, .int 2 0, .int 0 0, .int 0 0, .int 3 0, .ref 206, .bool true, .int 181 0, .ref 207, .none, .ref 208, .ref 209, .ref 210, .int 439 0, .int 92 0,hS "/claim/cut.py" 440]})::
 (nat_lit 212,hF "letter_at" (top 29) (hS "cellpatches.boards" 287) 211)::
 (nat_lit 213,hT #[])::
 (nat_lit 215,hT #[hS "board" 445,hS "cell" 446,hS "letter" 447])::
 (nat_lit 216,hT #[])::
 (nat_lit 218,{cls:= .type "code",data:=Data.fields #[hS "with_letter" 442,hS "with_letter" 443,hS "/claim/cut.py" 444, .int 96 0, .int 3 0, .int 0 0, .int 0 0, .int 3 0, .ref 213, .bool true, .int 181 0, .ref 214, .none, .ref 215, .ref 216, .ref 217, .int 448 0, .int 96 0,hS "/claim/cut.py" 449]})::
 (nat_lit 219,hF "with_letter" (top 30) (hS "cellpatches.boards" 287) 218)::
 (nat_lit 220,hT #[])::
 (nat_lit 222,hT #[hS "board" 454,hS "cell" 455,hS "ways" 456])::
 (nat_lit 223,hT #[])::
 (nat_lit 225,{cls:= .type "code",data:=Data.fields #[hS "beside" 451,hS "beside" 452,hS "/claim/cut.py" 453, .int 101 0, .int 3 0, .int 0 0, .int 0 0, .int 3 0, .ref 220, .bool true, .int 181 0, .ref 221, .none, .ref 222, .ref 223, .ref 224, .int 457 0, .int 101 0,hS "/claim/cut.py" 458]})::
 (nat_lit 226,hF "beside" (top 31) (hS "cellpatches.boards" 287) 225)::
 (nat_lit 227,hT #[])::
 (nat_lit 230,{cls:= .type "code",data:=Data.fields #[hS "column_from_below" 460,hS "column_from_below" 461,hS "/claim/cut.py" 462, .int 106 0, .int 2 0, .int 0 0, .int 0 0, .int 3 0, .ref 227, .bool true, .int 181 0, .ref 228, .none, .none, .none, .ref 229, .int 463 0, .int 106 0,hS "/claim/cut.py" 464]})::
 (nat_lit 231,hF "column_from_below" (top 32) (hS "cellpatches.boards" 287) 230)::
 (nat_lit 232,hT #[])::
 (nat_lit 235,{cls:= .type "code",data:=Data.fields #[hS "turned" 466,hS "turned" 467,hS "/claim/cut.py" 468, .int 108 0, .int 1 0, .int 0 0, .int 0 0, .int 3 0, .ref 232, .bool true, .int 181 0, .ref 233, .none, .none, .none, .ref 234, .int 469 0, .int 108 0,hS "/claim/cut.py" 470]})::
 (nat_lit 236,hF "turned" (top 33) (hS "cellpatches.boards" 287) 235)::
 (nat_lit 237,hT #[])::
 (nat_lit 240,{cls:= .type "code",data:=Data.fields #[hS "mirrored" 472,hS "mirrored" 473,hS "/claim/cut.py" 474, .int 111 0, .int 1 0, .int 0 0, .int 0 0, .int 3 0, .ref 237, .bool true, .int 181 0, .ref 238, .none, .none, .none, .ref 239, .int 475 0, .int 111 0,hS "/claim/cut.py" 476]})::
 (nat_lit 241,hF "mirrored" (top 34) (hS "cellpatches.boards" 287) 240)::
 (nat_lit 242,hT #[])::
 (nat_lit 244,hT #[hS "one" 481,hS "other" 482])::
 (nat_lit 245,hT #[])::
 (nat_lit 247,{cls:= .type "code",data:=Data.fields #[hS "stacked" 478,hS "stacked" 479,hS "/claim/cut.py" 480, .int 114 0, .int 2 0, .int 0 0, .int 0 0, .int 3 0, .ref 242, .bool true, .int 181 0, .ref 243, .none, .ref 244, .ref 245, .ref 246, .int 483 0, .int 114 0,hS "/claim/cut.py" 484]})::
 (nat_lit 248,hF "stacked" (top 35) (hS "cellpatches.boards" 287) 247)::
 (nat_lit 249,hT #[])::
 (nat_lit 252,{cls:= .type "code",data:=Data.fields #[hS "letters" 486,hS "letters" 487,hS "/claim/cut.py" 488, .int 119 0, .int 1 0, .int 0 0, .int 0 0, .int 3 0, .ref 249, .bool true, .int 181 0, .ref 250, .none, .none, .none, .ref 251, .int 489 0, .int 119 0,hS "/claim/cut.py" 490]})::
 (nat_lit 253,hF "letters" (top 36) (hS "cellpatches.boards" 287) 252)::
 (nat_lit 254,hT #[])::
 (nat_lit 256,hT #[hS "_law_script" 497,hS "_law_k" 498])::
 (nat_lit 257,hT #[])::
 (nat_lit 259,{cls:= .type "code",data:=Data.fields #[hS "_law_cell" 494,hS "_law_cell" 495,hS "/claim/cut.py" 496, .int 124 0, .int 2 0, .int 0 0, .int 0 0, .int 3 0, .ref 254, .bool true, .int 181 0, .ref 255, .none, .ref 256, .ref 257, .ref 258, .int 499 0, .int 124 0,hS "/claim/cut.py" 500]})::
 (nat_lit 260,hF "_law_cell" (top 38) (hS "law_cellpatches_k03_whole_boards" 492) 259)::
 (nat_lit 261,hT #[])::
 (nat_lit 263,hT #[hS "_law_script" 505,hS "_law_k" 506,hS "_law_many" 507,hS "_law_cell_here" 508])::
 (nat_lit 264,hT #[])::
 (nat_lit 266,{cls:= .type "code",data:=Data.fields #[hS "_law_drawn" 502,hS "_law_drawn" 503,hS "/claim/cut.py" 504, .int 128 0, .int 3 0, .int 0 0, .int 0 0, .int 3 0, .ref 261, .bool true, .int 181 0, .ref 262, .none, .ref 263, .ref 264, .ref 265, .int 509 0, .int 128 0,hS "/claim/cut.py" 510]})::
 (nat_lit 267,hF "_law_drawn" (top 39) (hS "law_cellpatches_k03_whole_boards" 492) 266)::
 (nat_lit 268,hT #[])::
 (nat_lit 271,{cls:= .type "code",data:=Data.fields #[hS "_law_board" 512,hS "_law_board" 513,hS "/claim/cut.py" 514, .int 132 0, .int 3 0, .int 0 0, .int 0 0, .int 3 0, .ref 268, .bool true, .int 181 0, .ref 269, .none, .none, .none, .ref 270, .int 515 0, .int 132 0,hS "/claim/cut.py" 516]})::
 (nat_lit 272,hF "_law_board" (top 40) (hS "law_cellpatches_k03_whole_boards" 492) 271)::
 (nat_lit 273,hT #[])::
 (nat_lit 275,hT #[hS "_law_script" 521,hS "_law_at" 522,hS "_law_board_here" 523])::
 (nat_lit 276,hT #[])::
 (nat_lit 278,{cls:= .type "code",data:=Data.fields #[hS "_law_cell_in" 518,hS "_law_cell_in" 519,hS "/claim/cut.py" 520, .int 141 0, .int 3 0, .int 0 0, .int 0 0, .int 3 0, .ref 273, .bool true, .int 181 0, .ref 274, .none, .ref 275, .ref 276, .ref 277, .int 524 0, .int 141 0,hS "/claim/cut.py" 525]})::
 (nat_lit 279,hF "_law_cell_in" (top 41) (hS "law_cellpatches_k03_whole_boards" 492) 278)::
 (nat_lit 280,hT #[])::
 (nat_lit 283,{cls:= .type "code",data:=Data.fields #[hS "_law_is_put" 527,hS "_law_is_put" 528,hS "/claim/cut.py" 529, .int 143 0, .int 3 0, .int 0 0, .int 0 0, .int 3 0, .ref 280, .bool true, .int 181 0, .ref 281, .none, .none, .none, .ref 282, .int 530 0, .int 143 0,hS "/claim/cut.py" 531]})::
 (nat_lit 284,hF "_law_is_put" (top 42) (hS "law_cellpatches_k03_whole_boards" 492) 283)::
 (nat_lit 285,hT #[])::
 (nat_lit 288,{cls:= .type "code",data:=Data.fields #[hS "law" 533,hS "law" 534,hS "/claim/cut.py" 535, .int 154 0, .int 1 0, .int 0 0, .int 0 0, .int 3 0, .ref 285, .bool true, .int 181 0, .ref 286, .none, .none, .none, .ref 287, .int 536 0, .int 154 0,hS "/claim/cut.py" 537]})::
 (nat_lit 289,hF "law" (top 43) (hS "law_cellpatches_k03_whole_boards" 492) 288)::[]
def la:List Nat:=[2,3,15,22,23,24,25,28,35,36,37,40,47,48,49,52,59,60,61,64,71,72,73,76,83,84,85,88,90,91,93,94,95,97,98,100,101,102,105,106,107,110,111,112,114,115,117,118,119,121,122,124,125,126,128,129,131,132,133,135,136,138,139,140,142,143,145,146,147,149,150,152,153,154,157,158,159,161,162,164,165,166,168,169,171,172,173,175,176,178,179,180,182,183,185,186,187,189,190,192,193,194,197,198,199,201,202,204,205,206,208,209,211,212,213,215,216,218,219,220,222,223,225,226,227,230,231,232,235,236,237,240,241,242,244,245,247,248,249,252,253,254,256,257,259,260,261,263,264,266,267,268,271,272,273,275,276,278,279,280,283,284,285,288,289]
def rW:Program:={PySem.Challenge.pw_cellpatches_k03_whole_boards with main:={PySem.Challenge.pw_cellpatches_k03_whole_boards.main with body:=[top 1,top 2,top 3,top 4,top 5,top 6,top 8,top 9,top 10,top 11,top 12,top 13,top 14,top 15,top 16,top 17,top 18,top 19,top 20,top 21,top 22,top 23,top 24,top 25,top 26,top 27,top 28,top 29,top 30,top 31,top 32,top 33,top 34,top 35,top 36,top 38,top 39,top 40,top 41,top 42,top 43]} }
open PySem.W PyProof.Rows in
set_option maxHeartbeats 0 in
theorem EU:LeftO PySem.Challenge.rw_cellpatches_k03_whole_boards.row.prog rW [] (fun s=>xlAt rW [] s&&recOk PySem.Challenge.rw_cellpatches_k03_whole_boards.row.records s) (kHook lb la (fun _=>by kernel_rfl)).obs (kHook lb la (fun _=>by kernel_rfl)).val 4584:=fun w=>by kernel_rfl
end K1
namespace L2
open PySem PySem.Spec PyProof.Rows
abbrev Key:=Sum Int Str
def lz:Key→Value→Bool
 | .inl k,v=>Value.isInt k v
 | .inr x,v=>Value.isStrOf x v
def HA(w:World):Key→Int
 | .inl k=>hashInt k
 | .inr x=>hashStr w x
theorem bg:∀{k:Key}{v:Value},lz k v=true→(∃i t,k=Sum.inl i∧v=Value.int i t)∨(∃x t,k=Sum.inr x∧v=Value.str x t)
 | .inl i,v,h=>by
   obtain⟨t,e⟩:=Value.isInt_shape (k:=i) (v:=v) h
   exact .inl ⟨i,t,rfl,e⟩
 | .inr x,v,h=>by
   obtain⟨t,e⟩:=Value.isStrOf_shape (x:=x) (v:=v) h
   exact .inr ⟨x,t,rfl,e⟩
theorem vN(i:Int)(t:Tok):lz (.inl i) (.int i t)=true:=by simp[lz,Value.isInt]
theorem vO(x:Str)(t:Tok):lz (.inr x) (.str x t)=true:=by simp[lz,Value.isStrOf]
theorem CG(a b:Int):decide ((Sum.inl a:Key)=Sum.inl b)=(a==b):=by
 by_cases e:a=b
 ·subst e;simp
 ·have h:¬(Sum.inl a:Key)=Sum.inl b:=fun q=>e (Sum.inl.inj q)
  rw[decide_eq_false h]
  exact(beq_eq_false_iff_ne.mpr e).symm
theorem CJ(a b:Str):decide ((Sum.inr a:Key)=Sum.inr b)=decide (a=b):=by
 by_cases e:a=b
 ·subst e;simp
 ·have h:¬(Sum.inr a:Key)=Sum.inr b:=fun q=>e (Sum.inr.inj q)
  rw[decide_eq_false h,decide_eq_false e]
theorem CH(a:Int)(b:Str):decide ((Sum.inl a:Key)=Sum.inr b)=false:=decide_eq_false (fun q=>nomatch q)
theorem CI(a:Str)(b:Int):decide ((Sum.inr a:Key)=Sum.inl b)=false:=decide_eq_false (fun q=>nomatch q)
def bA(prog:Program)(w:World):PySem.KeyKind prog w Key where
 is:=lz
 hash:=HA w
 inj:=fun v a b ha hb=>by
  rcases bg ha with⟨i,t,rfl,rfl⟩ | ⟨x,t,rfl,rfl⟩
  ·rcases bg hb with⟨j,u,rfl,e⟩ | ⟨y,u,rfl,e⟩
   ·injection e with e1 _;rw[e1]
   ·exact nomatch e
  ·rcases bg hb with⟨j,u,rfl,e⟩ | ⟨y,u,rfl,e⟩
   ·exact nomatch e
   ·injection e with e1 _;rw[e1]
 byValue:=fun k v h=>by
  rcases bg h with⟨i,t,rfl,rfl⟩ | ⟨x,t,rfl,rfl⟩<;>rfl
 pyHash:=fun hv h=>by
  rcases bg hv with⟨i,t,rfl,rfl⟩ | ⟨x,t,rfl,rfl⟩
  ·exact wpAny_pyHash_int h
  ·exact wpAny_pyHash_str h
 eqBool:=fun hu hv h=>by
  rcases bg hu with⟨i,t,rfl,rfl⟩ | ⟨x,t,rfl,rfl⟩
  ·rcases bg hv with⟨j,u,rfl,rfl⟩ | ⟨y,u,rfl,rfl⟩
   ·rw[CG] at h;exact wpAny_eqBool_int h
   ·rw[CH] at h;exact SeqAt.EqAt.int_str i t y u _ _ _ _ h
  ·rcases bg hv with⟨j,u,rfl,rfl⟩ | ⟨y,u,rfl,rfl⟩
   ·rw[CI] at h;exact SeqAt.EqAt.str_int x t j u _ _ _ _ h
   ·rw[CJ] at h;exact wpAny_eqBool_str h
 «strs» :=fun k x t v h=>by
  rcases bg h with⟨i,u,rfl,e⟩ | ⟨y,u,rfl,e⟩
  ·exact nomatch e
  ·injection e with e1 _
   subst e1
   cases v<;>rfl
theorem qP(prog:Program)(w:World)(i:Int)(t:Tok):(bA prog w).is (.inl i) (.int i t)=true:=vN i t
theorem qQ(prog:Program)(w:World)(x:Str)(t:Tok):(bA prog w).is (.inr x) (.str x t)=true:=vO x t
inductive V where
 |non | bl (b:Bool) | int (i:Int) | str (x:Str) | byt (b:Array UInt8) | flt (b:UInt64) | ref (a:Addr) | ty (n:String)
 deriving DecidableEq
def RelV:V→Value→Prop
 | .non,u=>u=Value.none
 | .bl b,u=>u=Value.bool b
 | .int i,u=>∃t,u=Value.int i t
 | .str x,u=>∃t,u=Value.str x t
 | .byt b,u=>∃t,u=Value.bytes b t
 | .flt b,u=>∃t,u=Value.float b t
 | .ref a,u=>u=Value.ref a
 | .ty n,u=>u=Value.type n
abbrev Vals:List V→List Value→Prop:=Paired RelV
theorem Vals.length{xs:List V}{us:List Value}(r:Vals xs us):xs.length=us.length:=Paired.length r
theorem Vals.get:∀{xs:List V}{us:List Value}{i:Nat}{x:V},Vals xs us→xs[i]? =some x→∃u,us[i]? =some u∧RelV x u
 |_,_,_,_, .nil,e=>by simp at e
 |_,_,0,_, .cons r _,e=>by simp at e;subst e;exact⟨_,rfl,r⟩
 |_,_,i+1,x, .cons _ t,e=>by
  obtain⟨u,h1,h2⟩:=Vals.get (i:=i) (x:=x) t (by simpa using e)
  exact⟨u,by simpa using h1,h2⟩
theorem Vals.append:∀{xs ys:List V}{us ws:List Value},Vals xs us→Vals ys ws→Vals (xs++ys) (us++ws)
 |_,_,_,_, .nil,s=>s
 |_,_,_,_, .cons r t,s=> .cons r (Vals.append t s)
theorem Vals.take:∀{xs:List V}{us:List Value}(n:Nat),Vals xs us→Vals (xs.take n) (us.take n)
 |_,_,0,_=> .nil
 |_,_,_+1, .nil=> .nil
 |_,_,n+1, .cons r t=> .cons r (Vals.take n t)
theorem Vals.drop:∀{xs:List V}{us:List Value}(n:Nat),Vals xs us→Vals (xs.drop n) (us.drop n)
 |_,_,0,r=>r
 |_,_,_+1, .nil=> .nil
 |_,_,n+1, .cons _ t=>Vals.drop n t
def RelO:Option V→Option Value→Prop
 |some v,some u=>RelV v u
 |none,none=>True
 |_,_=>False
def KV{κ:Type}:List (κ×V)→List (κ×Value)→Prop:=Paired fun(p:κ×V) (q:κ×Value)=>p.1=q.1∧RelV p.2 q.2
def kV:Key→V
 | .inl i=> .int i
 | .inr x=> .str x
inductive HO where
 |lst (xs:List V)
 |tup (xs:List V)
 |dK (ay:List (Key×V)) | dT (ay:List (List Key×V))
 |set (S:Int→Bool) (n:Nat)
 |ins (C dx:Addr) (fs:List (Str×V))
 |own (x:Addr)
 |xd (fs:List (Str×V))
 |met (f x:Addr)
 |rng (lo hi:Int)
 |frz (o:Obj) (u:HO)
 |tbl (ps:Array Value)
 |ext (φ:Heap→Prop)
abbrev Hp:=Addr→Option HO
def upd(H:Hp)(a:Addr)(o:HO):Hp:=fun b=>if b=a then some o else H b
theorem aD{H:Hp}{a:Addr}{o:HO}:upd H a o a=some o:=by unfold upd;rw[if_pos rfl]
theorem aw{H:Hp}{a b:Addr}{o:HO}(h:b≠a):upd H a o b=H b:=by unfold upd;rw[if_neg h]
theorem BC{H:Hp}{a b:Addr}{o u:HO}(h:H a=some o)(h':H b=some u)(d:o≠u):a≠b:=by
 intro e;subst e;rw[h] at h';exact d (Option.some.inj h')
theorem bz{H:Hp}{a b:Addr}{o:HO}(h:H a=some o)(h':H b=none):a≠b:=by
 intro e;subst e;rw[h] at h';cases h'
section
variable(P:Program)(w:World)
def ObjOk(H:Hp)(h:Heap)(a:Addr):HO→Prop
 | .lst xs=>xs.length≤sizeLine∧∃(aA:List Value) (n:Nat),Vals xs aA∧h.get? a=some {cls:= .type "list",data:= .seq aA.toArray n}
 | .tup xs=>xs.length≤sizeLine∧∃aA:List Value,Vals xs aA∧IsTup h a aA.toArray
 | .dK ay=>ay.length≤sizeLine∧(a==sysModules)=false∧∃vs,KV ay vs∧h.DictOf (bA P w) a vs
 | .dT ay=>ay.length≤sizeLine∧(a==sysModules)=false∧∃xs:List (List Key×Addr×Value),
    Paired (fun (p:List Key×V) (q:List Key×Addr×Value)=>p.1=q.1∧H q.2.1=some (.tup (p.1.map kV))∧RelV p.2 q.2.2) ay xs∧
    ∃o es ep,h.get? a=some o∧o.ExactDict∧o.data= .dict es ep∧es.toList=xs.map (entryOfKey (tupleKind (bA P w)))∧(xs.map (·.1)).Nodup
 | .set S n=>h.SetOf (intKind P w) a S n
 | .ins C dx fs=>H dx=some (.own a)∧fs.length≤1000∧dx≠a∧h.get? a=some (PySem.W.instObj C dx)∧
    ∃mA,h.Ns1 dx mA∧(∀f,RelO (fs.lookup f) (mA f))∧PySem.Within mA (fs.map (·.1))
 | .own _=>∃o,h.get? a=some o
 | .xd fs=>∃mA,h.Ns1 a mA∧∀f,RelO (fs.lookup f) (mA f)
 | .rng lo hi=>∃t u v,h.get? a=some {cls:= .type "range",data:= .fields #[.int lo t, .int hi u, .int 1 v]}
 | .frz o u=>h.get? a=some o∧ObjOk H h a u
 | .tbl ps=>h.get? a=some {cls:= .none,data:= .fields ps}
 | .met f x=>h.get? a=some (PySem.W.methodObj (.ref f) (.ref x))
 | .ext φ=>φ h∧(∃o,h.get? a=some o)∧∀h1 h2:Heap,φ h1→(∀o,h1.get? a=some o→h2.get? a=some o)→φ h2
def HOk(H:Hp)(h:Heap):Prop:=∀a o,H a=some o→ObjOk P w H h a o
end
section
variable{P:Program}{w:World}{H H':Hp}{h h':Heap}{a:Addr}{o:HO}
theorem ObjOk.lt(x:ObjOk P w H h a o):a<h.objs.size:=by
 cases o with
 |lst xs=>obtain⟨_,_,_,_,e⟩:=x;exact Heap.lt_size e
 |tup xs=>obtain⟨_,_,_,p⟩:=x;exact p.lt
 |dK ay=>obtain⟨_,_,_,_,o,_,_,e,_⟩:=x;exact Heap.lt_size e
 |dT ay=>obtain⟨_,_,_,_,o,_,_,e,_⟩:=x;exact Heap.lt_size e
 |set S n=>obtain⟨o,_,_,_,e,_⟩:=x;exact Heap.lt_size e
 |ins C dx fs=>obtain⟨_,_,_,e,_⟩:=x;exact Heap.lt_size e
 |own y=>obtain⟨_,e⟩:=x;exact Heap.lt_size e
 |xd fs=>obtain⟨_,⟨_,_,_,e,_⟩,_⟩:=x;exact Heap.lt_size e
 |rng lo hi=>obtain⟨_,_,_,e⟩:=x;exact Heap.lt_size e
 |frz ob u=>obtain⟨e,_⟩:=x;exact Heap.lt_size e
 |tbl ps=>exact Heap.lt_size (show h.get? a=some _ from x)
 |met f y=>exact Heap.lt_size (show h.get? a=some _ from x)
 |ext φ=>obtain⟨_,⟨_,e⟩,_⟩:=x;exact Heap.lt_size e
theorem Paired.mapP{α β:Type}{F G:α→β→Prop}:∀{l₁:List α}{l₂:List β},Paired F l₁ l₂→(∀a b,F a b→G a b)→Paired G l₁ l₂
 |_,_, .nil,_=> .nil
 |_,_, .cons r t,f=> .cons (f _ _ r) (Paired.mapP t f)
theorem ObjOk.stay(x:ObjOk P w H h a o)(k:∀b u,(b=a∨H b=some (.own a))→h.get? b=some u→h'.get? b=some u)
 (ho:∀b,H b=some (.own a)→H' b=some (.own a))(ht:∀b xs,H b=some (.tup xs)→H' b=some (.tup xs)):ObjOk P w H' h' a o:=by
 induction o with
 |lst xs=>obtain⟨z,aA,n,r,e⟩:=x;exact⟨z,aA,n,r,k _ _ (.inl rfl) e⟩
 |tup xs=>obtain⟨z,aA,r,ob,e,c⟩:=x;exact⟨z,aA,r,ob,k _ _ (.inl rfl) e,c⟩
 |dK ay=>obtain⟨z,y,vs,r,ob,es,ep,e,c⟩:=x;exact⟨z,y,vs,r,ob,es,ep,k _ _ (.inl rfl) e,c⟩
 |dT ay=>
  obtain⟨z,y,xs,r,ob,es,ep,e,c⟩:=x
  exact⟨z,y,xs,Paired.mapP r fun p q z=>⟨z.1,ht _ _ z.2.1,z.2.2⟩,ob,es,ep,k _ _ (.inl rfl) e,c⟩
 |set S n=>obtain⟨ob,es,ep,t,e,c⟩:=x;exact⟨ob,es,ep,t,k _ _ (.inl rfl) e,c⟩
 |ins C dx fs=>
  obtain⟨d,z,ne,e,mA,⟨od,es,ep,e2,c⟩,r⟩:=x
  exact⟨ho _ d,z,ne,k _ _ (.inl rfl) e,mA,⟨od,es,ep,k _ _ (.inr d) e2,c⟩,r⟩
 |own y=>obtain⟨ob,e⟩:=x;exact⟨ob,k _ _ (.inl rfl) e⟩
 |xd fs=>obtain⟨mA,⟨od,es,ep,e,c⟩,r⟩:=x;exact⟨mA,⟨od,es,ep,k _ _ (.inl rfl) e,c⟩,r⟩
 |rng lo hi=>obtain⟨t,u,v,e⟩:=x;exact⟨t,u,v,k _ _ (.inl rfl) e⟩
 |frz ob u ih=>obtain⟨e,q⟩:=x;exact⟨k _ _ (.inl rfl) e,ih q⟩
 |tbl ps=>
  have e:h.get? a=some {cls:= .none,data:= .fields ps}:=x
  show h'.get? a=some {cls:= .none,data:= .fields ps}
  exact k a _ (.inl rfl) e
 |met f y=>
  have e:h.get? a=some (PySem.W.methodObj (.ref f) (.ref y)):=x
  show h'.get? a=some (PySem.W.methodObj (.ref f) (.ref y))
  exact k a _ (.inl rfl) e
 |ext φ=>obtain⟨p,⟨o,e⟩,st⟩:=x;exact⟨st _ _ p fun o q=>k _ _ (.inl rfl) q,⟨o,k _ _ (.inl rfl) e⟩,st⟩
theorem HOk.lt(x:HOk P w H h)(e:H a=some o):a<h.objs.size:=(x a o e).lt
theorem HOk.fresh(x:HOk P w H h)(e:h.objs.size≤a):H a=none:=by
 cases q:H a with
 |none=>rfl
 |some u=>exact absurd (Nat.lt_of_lt_of_le (x.lt q) e) (Nat.lt_irrefl _)
theorem HOk.kept(x:HOk P w H h)(k:∀b u,h.get? b=some u→h'.get? b=some u):HOk P w H h':=fun a o e=>
 (x a o e).stay (fun b u _ q=>k b u q) (fun _ q=>q) fun _ _ q=>q
theorem HOk.laid(x:HOk P w H h)(k:∀b u,h.get? b=some u→h'.get? b=some u)(hp:h.objs.size≤a)(new:ObjOk P w (upd H a o) h' a o):HOk P w (upd H a o) h':=fun b u e=>by
 have hn:=x.fresh hp
 by_cases hb:b=a
 ·subst hb;rw[aD] at e;cases e;exact new
 ·rw[aw hb] at e
  exact(x b u e).stay (fun c v _ q=>k c v q) (fun c q=>by rw[aw (bz q hn)];exact q) fun c xs q=>by rw[aw (bz q hn)];exact q
end
def Rd(H:Hp)(a:Addr)(u:HO):Prop:=H a=some u∨∃o,H a=some (.frz o u)
theorem Rd.ok{P:Program}{w:World}{H:Hp}{h:Heap}{a:Addr}{u:HO}(r:Rd H a u)(x:HOk P w H h):ObjOk P w H h a u:=by
 rcases r with r | ⟨o,r⟩
 ·exact x a u r
 ·obtain⟨_,q⟩:=x a _ r
  exact q
def Ee:Option HO→Prop
 |some (.lst _)=>True
 |some (.dK _)=>True
 |some (.dT _)=>True
 |some (.set _ _)=>True
 |some (.ins _ _ _)=>True
 |some (.ext _)=>True
 |_=>False
section
variable{P:Program}{w:World}{H:Hp}{h h':Heap}{x e:Addr}{o':HO}
theorem HOk.write(ok:HOk P w H h)(mu:Ee (H x))(he:e=x∨H e=some (.own x))(k:∀b u,b≠e→h.get? b=some u→h'.get? b=some u)(D0:∃u,h'.get? e=some u)
 (new:ObjOk P w (upd H x o') h' x o'):HOk P w (upd H x o') h':=fun b u q=>by
 have Fh:∀c y,H c=some (.own y)→c≠x:=fun c y r z=>by subst z;rw[r] at mu;exact mu
 have HE:∀c xs,H c=some (.tup xs)→c≠x:=fun c xs r z=>by subst z;rw[r] at mu;exact mu
 by_cases hb:b=x
 ·subst hb;rw[aD] at q;cases q;exact new
 ·rw[aw hb] at q
  by_cases B6:b=e
  ·have q':H b=some (.own x):=by
    rcases he with z | z
    ·exact absurd (B6.trans z) hb
    ·rw[B6];exact z
   rw[q] at q';cases q'
   obtain⟨v,hv⟩:=D0
   exact⟨v,by rw[B6];exact hv⟩
  ·refine(ok b u q).stay (fun c v hc r=>k c v ?_ r) (fun c r=>by rw[aw (Fh c b r)];exact r) fun c xs r=>by rw[aw (HE c xs r)];exact r
   rcases hc with rfl | hc
   ·exact B6
   ·rintro rfl
    rcases he with z | z
    ·exact Fh c b hc z
    ·rw[hc] at z;cases z;exact hb rfl
end
structure Un (fs ex:List Addr) (H H':Hp) (h h':Heap):Prop where
 keep:∀b o,h.get? b=some o→H b=none→b∉fs→b∉ex→h'.get? b=some o
 slot:∀b o,h.get? b=some o→H b=none→b∈fs→b∉ex→∃sl,h'.get? b=some {o with slots:=sl}
 free:∀b o,h.get? b=some o→H b=none→b∉ex→H' b=none
 there:∀b o,h.get? b=some o→b∉ex→∃o',h'.get? b=some o'
 tups:∀b xs,H b=some (.tup xs)→H' b=some (.tup xs)
 frzs:∀b o u,H b=some (.frz o u)→H' b=some (.frz o u)
 tbls:∀b ps,H b=some (.tbl ps)→∃more,H' b=some (.tbl (ps++more))
section
variable{fs GJ ex sH:List Addr}{H H1 H2:Hp}{h h1 h2 h':Heap}{a x e:Addr}{o:HO}
theorem Un.any(u:Un fs ex H H1 h h1){b:Addr}{ob:Obj}(q:h.get? b=some ob)(n:H b=none)(hx:b∉ex):∃sl,h1.get? b=some {ob with slots:=sl}:=by
 by_cases hb:b∈fs
 ·exact u.slot b ob q n hb hx
 ·exact⟨ob.slots,u.keep b ob q n hb hx⟩
theorem Un.trans(a:Un fs ex H H1 h h1)(b:Un fs ex H1 H2 h1 h2):Un fs ex H H2 h h2 where
 keep:=fun c ob q n hc hx=>b.keep c ob (a.keep c ob q n hc hx) (a.free c ob q n hx) hc hx
 slot:=fun c ob q n hc hx=>by
  obtain⟨sl,e1⟩:=a.slot c ob q n hc hx
  obtain⟨DH,e2⟩:=b.slot c _ e1 (a.free c ob q n hx) hc hx
  exact⟨DH,e2⟩
 free:=fun c ob q n hx=>by
  obtain⟨o',e1⟩:=a.there c ob q hx
  exact b.free c o' e1 (a.free c ob q n hx) hx
 there:=fun c ob q hx=>by
  obtain⟨o',e1⟩:=a.there c ob q hx
  exact b.there c o' e1 hx
 tups:=fun c xs q=>b.tups c xs (a.tups c xs q)
 frzs:=fun c ob xs q=>b.frzs c ob xs (a.frzs c ob xs q)
 tbls:=fun c ps q=>by
  obtain⟨m1,e1⟩:=a.tbls c ps q
  obtain⟨m2,e2⟩:=b.tbls c _ e1
  exact⟨m1++m2,by rw[e2,Array.append_assoc]⟩
theorem Un.kept(k:∀b u,h.get? b=some u→h'.get? b=some u):Un fs ex H H h h':=
 ⟨fun b ob q _ _ _=>k b ob q,fun b ob q _ _ _=>⟨ob.slots,k b ob q⟩,fun _ _ _ n _=>n,fun b ob q _=>⟨ob,k b ob q⟩,fun _ _ q=>q,fun _ _ _ q=>q,fun _ ps q=>⟨#[],by rw[q];simp⟩⟩
theorem Un.refl:Un fs ex H H h h:=Un.kept fun _ _ q=>q
theorem Un.laid(k:∀b u,h.get? b=some u→h'.get? b=some u)(hp:h.objs.size≤a)(hn:H a=none):Un fs ex H (upd H a o) h h' where
 keep:=fun b u q _ _ _=>k b u q
 slot:=fun b u q _ _ _=>⟨u.slots,k b u q⟩
 free:=fun b u q n _=>by rw[aw (Nat.ne_of_lt (Nat.lt_of_lt_of_le (Heap.lt_size q) hp))];exact n
 there:=fun b u q _=>⟨u,k b u q⟩
 tups:=fun b xs q=>by rw[aw (bz q hn)];exact q
 frzs:=fun b u xs q=>by rw[aw (bz q hn)];exact q
 tbls:=fun b ps q=>⟨#[],by rw[aw (bz q hn),q];simp⟩
theorem Un.write(mu:Ee (H x))(he:e=x∨H e=some (.own x))(k:∀b u,b≠e→h.get? b=some u→h'.get? b=some u)(D0:∃u,h'.get? e=some u):Un fs ex H (upd H x o) h h':=by
 have hx:∀b,H b=none→b≠x:=fun b n z=>by subst z;rw[n] at mu;exact mu
 have hb:∀b,H b=none→b≠e:=fun b n z=>by
  subst z
  rcases he with r | r
  ·exact hx b n r
  ·rw[n] at r;cases r
 have hm:∀b u,H b=some u→¬Ee (some u)→b≠x:=fun b u q nm z=>by subst z;rw[q] at mu;exact nm mu
 refine⟨fun b u q n _ _=>k b u (hb b n) q,fun b u q n _ _=>⟨u.slots,k b u (hb b n) q⟩,fun b u q n _=>by rw[aw (hx b n)];exact n,fun b u q _=>?_,
  fun b xs q=>by rw[aw (hm b _ q fun z=>z)];exact q,fun b u xs q=>by rw[aw (hm b _ q fun z=>z)];exact q,fun b ps q=>⟨#[],by rw[aw (hm b _ q fun z=>z),q];simp⟩⟩
 by_cases B6:b=e
 ·subst B6;exact D0
 ·exact⟨u,k b u B6 q⟩
theorem Un.mono(u:Un fs ex H H1 h h1)(hs:∀b∈fs,b∈GJ)(hx:∀b∈ex,b∈sH):Un GJ sH H H1 h h1:=
 ⟨fun b ob q n hb he=>u.keep b ob q n (fun z=>hb (hs b z)) fun z=>he (hx b z),fun _ _ q n _ he=>u.any q n fun z=>he (hx _ z),fun b ob q n he=>u.free b ob q n fun z=>he (hx b z),fun b ob q he=>u.there b ob q fun z=>he (hx b z),u.tups,u.frzs,u.tbls⟩
end
def Gq(h:Heap)(H:Hp):List Addr:=(List.range h.objs.size).filter fun a=>(H a).isSome
def oT(h:Heap)(H:Hp):Heap:=PySem.W.hideAll h (Gq h H)
theorem vG(h:Heap)(H:Hp):(oT h H).objs.size=h.objs.size:=PySem.W.hideAll_size _ _
theorem xH{h:Heap}{H:Hp}{b:Addr}{o:Obj}(e:h.get? b=some o)(n:H b=none):(oT h H).get? b=some o:=
 PySem.W.hideAll_get _ e fun hm=>by
  have q:(H b).isSome=true:=(List.mem_filter.mp hm).2
  rw[n] at q;simp at q
theorem Ag{h:Heap}{H:Hp}{b:Addr}{o:Obj}(e:(oT h H).get? b=some o):h.get? b=some o∧H b=none:=by
 have e':h.get? b=some o:=PySem.W.of_hideAll (Gq h H) e
 refine⟨e',?_⟩
 cases q:H b with
 |none=>rfl
 |some x=>
  have hm:b∈Gq h H:=List.mem_filter.mpr ⟨List.mem_range.mpr (Heap.lt_size e'),by simp[q]⟩
  have z:(oT h H).get? b=none:=PySem.W.hideAll_none (Gq h H) hm
  rw[z] at e;cases e
def zE(g h:Heap)(L:Addr):List (Addr×Obj):=(List.range h.objs.size).filterMap fun a=>if a=L∨(g.get? a).isSome=true then none else(h.get? a).map fun o=>(a,o)
def rest(g h:Heap)(L d:Addr):List (Addr×Obj):=(zE g h L).filter fun p=>decide (p.1≠d)
structure Mod (K:W.Frag) (mg:Str→Option Value) (base:Heap):Prop where
 kin:K.In base
 glob:base.Ns mainGlobals mg
 blt:∃mb,base.Ns builtinsNs mb∧∀x:Str,x≠"__name__"→mb x=bootBuiltins x
 nolimit:base.NoLimit
structure Cx where
 prog:Program
 w:World
 K:W.Frag
 mg:Str→Option Value
 base:Heap
 A:Around
 N:List Str
 s₀:Shared
 H₀:Hp
 env:Env
 outer:List Env
 stack:List Env
 ex:List Addr
 fn:Str→Bool
 calm:Bool
 pn:List (Addr×Obj)
 xe:Value→Shared→Prop
def kE(l:List Env):List Addr:=l.filterMap (·.frame)
abbrev Cx.fs(X:Cx):List Addr:=kE X.outer
def GC(sc:Scope)(x:Str):Prop:=sc.names.lookup x=some .local∨sc.names.lookup x=some .cell∨sc.names.lookup x=some .free
def Loc(sc:Scope)(x:Str):Prop:=sc.names.lookup x=some .local∨sc.names.lookup x=some .cell
def Look(env:Env)(h:Heap)(m:Str→Option Value)(x:Str)(u:Value):Prop:=
 (env.kindOf x=some .local∧m x=some u)∨((env.kindOf x=some .cell∨env.kindOf x=some .free)∧∃c,env.cells.lookup x=some c∧h.IsCell c (some u))
structure Cx.Ok (X:Cx):Prop where
 mod:Mod X.K X.mg X.base
 kind:X.env.scope.kind= .function
 glob:X.env.globals=mainGlobals
 blt:X.env.builtins=builtinsNs
 above:X.s₀.heap.objs.size≤X.env.locals
 inj:∀x y c,X.env.cells.lookup x=some c→X.env.cells.lookup y=some c→x=y
 has:∀x,(X.env.kindOf x=some .cell∨X.env.kindOf x=some .free)→∃c,X.env.cells.lookup x=some c
 cab:∀x c,X.fn x=true→X.env.cells.lookup x=some c→X.s₀.heap.objs.size≤c
 hd:X.calm=true→X.A.handled=none
 frames:X.A.frames=some X.stack
 stk:X.stack=X.outer∨(X.stack=X.env::X.outer∧X.env.frame=some X.env.locals)
 exf:∀b∈X.ex,b≠X.env.locals∧∀x c,X.env.cells.lookup x=some c→c≠b
 bs:∀b o,X.base.get? b=some o→X.s₀.heap.get? b=some o∧X.H₀ b=none
 bsz:X.base.objs.size≤X.s₀.heap.objs.size
 noex:∀b o,X.base.get? b=some o→b∉X.ex
 exfs:∀b∈X.ex,b∉X.fs
 funs:X.s₀.heap.FunFrames X.base X.outer
 frf:∀b∈X.fs,X.H₀ b=none
structure Inv (X:Cx) (pins:List (Addr×Obj)) (σ:List (Option V)) (H:Hp) (s:Shared):Prop where
 ok:X.Ok
 os:s.os=X.s₀.os
 bare:AllBare s.gens
 base:Un X.fs X.ex X.H₀ H X.s₀.heap s.heap
 loc:∃m,s.heap.Ns X.env.locals m∧∀(i:Nat) (x:Str) (v:V),X.N[i]? =some x→σ[i]? =some (some v)→GC X.env.scope x→∃u,RelV v u∧Look X.env s.heap m x u
 cell:∀x c,X.env.cells.lookup x=some c→∃v,s.heap.IsCell c v
 free:H X.env.locals=none
 freeC:∀x c,X.env.cells.lookup x=some c→H c=none
 pin:∀p∈X.pn++pins,s.heap.get? p.1=some p.2∧H p.1=none∧p.1≠X.env.locals∧p.1∉X.fs∧∀v,p.2.data≠ .cell v
 hok:HOk X.prog X.w H s.heap
 len:σ.length=X.N.length
section
variable{X:Cx}{pins:List (Addr×Obj)}{σ:List (Option V)}{H H':Hp}{s:Shared}{h':Heap}
theorem Cx.Ok.nofr(ok:X.Ok){b:Addr}{o:Obj}(e:X.base.get? b=some o):b∉X.fs:=fun hb=>by
 have:=(ok.funs.mem hb).1
 rw[e] at this;cases this
theorem Inv.bs(I:Inv X pins σ H s):∀b o,X.base.get? b=some o→s.heap.get? b=some o∧H b=none:=fun b o e=>
 ⟨I.base.keep b o (I.ok.bs b o e).1 (I.ok.bs b o e).2 (I.ok.nofr e) (I.ok.noex b o e),I.base.free b o (I.ok.bs b o e).1 (I.ok.bs b o e).2 (I.ok.noex b o e)⟩
theorem Inv.bk(I:Inv X pins σ H s):∀b o,X.base.get? b=some o→s.heap.get? b=some o:=fun b o e=>(I.bs b o e).1
theorem Inv.mod(I:Inv X pins σ H s):Mod X.K X.mg X.base:=I.ok.mod
theorem Inv.kIn(I:Inv X pins σ H s):X.K.In s.heap:=I.ok.mod.kin.keeps I.bk
theorem Inv.nolimit(I:Inv X pins σ H s):s.heap.NoLimit:=I.ok.mod.nolimit.keeps I.bk
theorem Inv.lt(I:Inv X pins σ H s):X.env.locals<s.heap.objs.size:=let ⟨_,hn,_⟩:=I.loc;hn.lt
theorem Inv.sz(I:Inv X pins σ H s):X.s₀.heap.objs.size≤s.heap.objs.size:=Nat.le_trans I.ok.above (Nat.le_of_lt I.lt)
theorem Inv.nofs(I:Inv X pins σ H s){a:Addr}(h:s.heap.objs.size≤a):a∉X.fs:=fun hb=>by
 obtain⟨_,o,ho,_⟩:=I.ok.funs.mem hb
 exact absurd (Nat.lt_of_lt_of_le (Heap.lt_size ho) (Nat.le_trans I.sz h)) (Nat.lt_irrefl _)
theorem Inv.cne(I:Inv X pins σ H s):∀x c,X.env.cells.lookup x=some c→c≠X.env.locals:=fun x c e z=>by
 obtain⟨v,o,ho,hd⟩:=I.cell x c e
 obtain⟨m,⟨o',es,ep,nz,qC,_⟩,_⟩:=I.loc
 rw[z,nz] at ho;cases ho;rw[qC] at hd;cases hd
theorem Inv.funs(I:Inv X pins σ H s):s.heap.FunFrames X.base X.outer:=by
 have all:∀(l:List Env),(∀b∈kE l,b∈X.fs)→X.s₀.heap.FunFrames X.base l→s.heap.FunFrames X.base l:=by
  intro l
  induction l with
  |nil=>intro _ _;trivial
  |cons env r ih=>
   intro hs hl
   obtain⟨hk,⟨L,o,hf,hn,ho,hd⟩,hr⟩:=hl
   have hL:L∈X.fs:=hs L (by unfold kE;rw[List.filterMap_cons,hf];exact List.mem_cons_self)
   obtain⟨sl,e⟩:=I.base.slot L o ho (I.ok.frf L hL) hL fun z=>I.ok.exfs L z hL
   exact⟨hk,⟨L,_,hf,hn,e,hd⟩,ih (fun b hb=>hs b (by unfold kE;rw[List.filterMap_cons,hf];exact List.mem_cons_of_mem _ hb)) hr⟩
 exact all X.outer (fun _ hb=>hb) I.ok.funs
theorem Inv.stack(I:Inv X pins σ H s):s.heap.FunFrames X.base X.stack:=by
 rcases I.ok.stk with e | ⟨e,hf⟩
 ·rw[e];exact I.funs
 ·rw[e]
  obtain⟨m,hn,_⟩:=I.loc
  refine .cons (by rw[I.ok.kind];decide) hf hn ?_ I.funs
  exact Heap.get?_none_of_le (Nat.le_trans I.ok.bsz I.ok.above)
theorem Inv.stkSub(I:Inv X pins σ H s):∀b∈kE X.stack,b∈X.env.locals::X.fs:=fun b hb=>by
 rcases I.ok.stk with e | ⟨e,hf⟩
 ·rw[e] at hb;exact List.mem_cons_of_mem _ hb
 ·rw[e] at hb
  unfold kE at hb
  rw[List.filterMap_cons,hf] at hb
  exact hb
theorem Inv.stkFree(I:Inv X pins σ H s):∀b∈kE X.stack,H b=none:=fun b hb=>by
 rcases List.mem_cons.mp (I.stkSub b hb) with e | hb
 ·rw[e];exact I.free
 ·obtain⟨_,o,ho,_⟩:=I.ok.funs.mem hb
  exact I.base.free b o ho (I.ok.frf b hb) fun z=>I.ok.exfs b z hb
theorem Inv.step{g':Array GenState}{t':Nat}{d':Drawn}{ch:List Addr}(I:Inv X pins σ H s)
 (zw:∀b∈ch,(b∈X.ex∨X.s₀.heap.objs.size≤b)∧b≠X.env.locals∧(∀x c,X.env.cells.lookup x=some c→c≠b)∧∀p∈X.pn++pins,p.1≠b)
 (keep:∀b o,b≠X.env.locals→b∉X.fs→b∉ch→s.heap.get? b=some o→H b=none→h'.get? b=some o)
 (slot:∀b o,b≠X.env.locals→b∈X.fs→b∉ch→s.heap.get? b=some o→H b=none→∃sl,h'.get? b=some {o with slots:=sl})(free:∀b o,b∉ch→s.heap.get? b=some o→H b=none→H' b=none)
 (there:∀b o,b∉ch→s.heap.get? b=some o→∃o',h'.get? b=some o')
 (tups:∀b xs,H b=some (.tup xs)→H' b=some (.tup xs))(frzs:∀b o u,H b=some (.frz o u)→H' b=some (.frz o u))(tbls:∀b ps,H b=some (.tbl ps)→∃more,H' b=some (.tbl (ps++more)))
 (ns:∀m,s.heap.Ns X.env.locals m→h'.Ns X.env.locals m)(hok:HOk X.prog X.w H' h')(hg:AllBare g'):
 Inv X pins σ H' {s with heap:=h',gens:=g',drawn:=d',toks:=t'}:=by
 have Jk:∀b o,X.s₀.heap.get? b=some o→b≠X.env.locals:=fun b o e=>Nat.ne_of_lt (Nat.lt_of_lt_of_le (Heap.lt_size e) I.ok.above)
 have Gk:∀b o,X.s₀.heap.get? b=some o→b∉X.ex→b∉ch:=fun b o e hx hb=>by
  rcases(zw b hb).1 with z | z
  ·exact hx z
  ·exact absurd (Nat.lt_of_lt_of_le (Heap.lt_size e) z) (Nat.lt_irrefl _)
 have cellK:∀x c,X.env.cells.lookup x=some c→∀v,s.heap.IsCell c v→h'.IsCell c v:=fun x c e v ⟨o,ho,hd⟩=>by
  have Fe:c∉ch:=fun z=>(zw c z).2.2.1 x c e rfl
  by_cases hc:c∈X.fs
  ·obtain⟨sl,q⟩:=slot c o (I.cne x c e) hc Fe ho (I.freeC x c e)
   exact⟨_,q,hd⟩
  ·exact⟨o,keep c o (I.cne x c e) hc Fe ho (I.freeC x c e),hd⟩
 refine⟨I.ok,I.os,hg,⟨fun b o e n hb hx=>?_,fun b o e n hb hx=>?_,fun b o e n hx=>?_,fun b o e hx=>?_,fun b xs e=>tups b xs (I.base.tups b xs e),fun b o xs e=>frzs b o xs (I.base.frzs b o xs e),fun b ps e=>?_⟩,?_,fun x c e=>?_,?_,fun x c e=>?_,fun p hp=>?_,hok,I.len⟩
 ·exact keep b o (Jk b o e) hb (Gk b o e hx) (I.base.keep b o e n hb hx) (I.base.free b o e n hx)
 ·obtain⟨sl,e1⟩:=I.base.slot b o e n hb hx
  obtain⟨DH,e2⟩:=slot b _ (Jk b o e) hb (Gk b o e hx) e1 (I.base.free b o e n hx)
  exact⟨DH,e2⟩
 ·obtain⟨o',e1⟩:=I.base.there b o e hx
  exact free b o' (Gk b o e hx) e1 (I.base.free b o e n hx)
 ·obtain⟨o',e1⟩:=I.base.there b o e hx
  exact there b o' (Gk b o e hx) e1
 ·obtain⟨m1,e1⟩:=I.base.tbls b ps e
  obtain⟨m2,e2⟩:=tbls b _ e1
  exact⟨m1++m2,by rw[e2,Array.append_assoc]⟩
 ·obtain⟨m,hn,hl⟩:=I.loc
  refine⟨m,ns m hn,fun i x v e1 e2 e3=>?_⟩
  obtain⟨u,r,l⟩:=hl i x v e1 e2 e3
  refine⟨u,r,?_⟩
  rcases l with l | ⟨k,c,e,z⟩
  ·exact .inl l
  ·exact .inr ⟨k,c,e,cellK x c e _ z⟩
 ·obtain⟨v,z⟩:=I.cell x c e
  exact⟨v,cellK x c e v z⟩
 ·obtain⟨m,⟨o,_,_,ho,_⟩,_⟩:=I.loc
  exact free _ o (fun z=>(zw _ z).2.1 rfl) ho I.free
 ·obtain⟨v,o,ho,hd⟩:=I.cell x c e
  exact free c o (fun z=>(zw c z).2.2.1 x c e rfl) ho (I.freeC x c e)
 ·obtain⟨e,n,ne,nf,d⟩:=I.pin p hp
  have Fe:p.1∉ch:=fun z=>(zw p.1 z).2.2.2 p hp rfl
  exact⟨keep p.1 p.2 ne nf Fe e n,free p.1 p.2 Fe e n,ne,nf,d⟩
theorem Inv.un{t':Nat}(I:Inv X pins σ H s)(u:Un X.fs [] H H' s.heap h')(hok:HOk X.prog X.w H' h'):Inv X pins σ H' {s with heap:=h',toks:=t'}:=by
 obtain⟨m,⟨o,es,ep,ho,r⟩,_⟩:=id I.loc
 obtain⟨sl,hL⟩:=u.any ho I.free (by simp)
 exact I.step (g':=s.gens) (d':=s.drawn) (ch:=[]) (fun _ z=>nomatch z) (fun b o _ hb _ e n=>u.keep b o e n hb (by simp)) (fun b o _ hb _ e n=>u.slot b o e n hb (by simp)) (fun b o _ e n=>u.free b o e n (by simp)) (fun b o _ e=>u.there b o e (by simp)) u.tups u.frzs u.tbls (fun m' hm=>by
  obtain⟨o',DY,Et,nz,r'⟩:=hm
  rw[ho] at nz;cases nz
  exact⟨_,DY,Et,hL,r'⟩) hok I.bare
theorem Inv.call{g':Array GenState}{t':Nat}{d':Drawn}{ch:List Addr}(I:Inv X pins σ H s)(u:Un (kE X.stack) ch H H' s.heap h')(hok:HOk X.prog X.w H' h')(hg:AllBare g')
 (zw:∀b∈ch,(b∈X.ex∨X.s₀.heap.objs.size≤b)∧b≠X.env.locals∧(∀x c,X.env.cells.lookup x=some c→c≠b)∧∀p∈X.pn++pins,p.1≠b):
 Inv X pins σ H' {s with heap:=h',gens:=g',drawn:=d',toks:=t'}:=by
 obtain⟨m,⟨o,es,ep,ho,r⟩,_⟩:=id I.loc
 obtain⟨sl,hL⟩:=u.any ho I.free fun z=>(zw _ z).2.1 rfl
 exact I.step (ch:=ch) zw (fun b o hL hb hc e n=>u.keep b o e n (fun z=>(List.mem_cons.mp (I.stkSub b z)).elim hL hb) hc) (fun b o _ _ hc e n=>u.any e n hc) (fun b o hc e n=>u.free b o e n hc) (fun b o hc e=>u.there b o e hc) u.tups u.frzs u.tbls (fun m' hm=>by
  obtain⟨o',DY,Et,nz,r'⟩:=hm
  rw[ho] at nz;cases nz
  exact⟨_,DY,Et,hL,r'⟩) hok hg
theorem Inv.turned{t':Nat}{it:Addr}(I:Inv X pins σ H s)(k:∀b o,b≠it→s.heap.get? b=some o→h'.get? b=some o)(hn:H it=none)(hL:it≠X.env.locals)
 (h1:it∈X.ex∨X.s₀.heap.objs.size≤it)(h2:∀x c,X.env.cells.lookup x=some c→c≠it)(h3:∀p∈X.pn++pins,p.1≠it):Inv X pins σ H {s with heap:=h',toks:=t'}:=by
 have Jl:∀b u,H b=some u→b≠it:=fun b u e z=>by rw[z,hn] at e;cases e
 refine I.step (g':=s.gens) (d':=s.drawn) (ch:=[it]) (fun b hb=>?_) (fun b o _ _ hc e _=>k b o (fun z=>hc (by simp[z])) e) (fun b o _ _ hc e _=>⟨o.slots,k b o (fun z=>hc (by simp[z])) e⟩) (fun _ _ _ _ n=>n)
  (fun b o hc e=>⟨o,k b o (fun z=>hc (by simp[z])) e⟩) (fun _ _ e=>e) (fun _ _ _ e=>e) (fun b ps e=>⟨#[],by rw[e];simp⟩) (fun m hm=>?_) (fun b u e=>?_) I.bare
 ·have e:b=it:=by simpa using hb
  subst e
  exact⟨h1,hL,h2,h3⟩
 ·obtain⟨o,es,ep,ho,r⟩:=hm
  exact⟨o,es,ep,k _ o (Ne.symm hL) ho,r⟩
 ·refine(I.hok b u e).stay (fun c v hc q=>k c v ?_ q) (fun _ q=>q) fun _ _ q=>q
  rcases hc with z | z
  ·rw[z];exact Jl b u e
  ·exact Jl c _ z
theorem Inv.tok(I:Inv X pins σ H s)(t:Nat):Inv X pins σ H {s with toks:=t}:=I.un (h':=s.heap) (t':=t) Un.refl I.hok
theorem Inv.kept{t':Nat}(I:Inv X pins σ H s)(k:∀b u,s.heap.get? b=some u→h'.get? b=some u):Inv X pins σ H {s with heap:=h',toks:=t'}:=I.un (Un.kept k) (I.hok.kept k)
theorem Inv.laid{a:Addr}{o:HO}{t':Nat}(I:Inv X pins σ H s)(k:∀b u,s.heap.get? b=some u→h'.get? b=some u)(hp:s.heap.objs.size≤a)(new:ObjOk X.prog X.w (upd H a o) h' a o):
 Inv X pins σ (upd H a o) {s with heap:=h',toks:=t'}:=I.un (Un.laid k hp (I.hok.fresh hp)) (I.hok.laid k hp new)
theorem Inv.write{x e:Addr}{o:HO}{t':Nat}(I:Inv X pins σ H s)(mu:Ee (H x))(he:e=x∨H e=some (.own x))(k:∀b u,b≠e→s.heap.get? b=some u→h'.get? b=some u)(D0:∃u,h'.get? e=some u)
 (new:ObjOk X.prog X.w (upd H x o) h' x o):Inv X pins σ (upd H x o) {s with heap:=h',toks:=t'}:=I.un (Un.write mu he k D0) (I.hok.write mu he k D0 new)
theorem Inv.pins_of{BI:List (Addr×Obj)}(I:Inv X pins σ H s)(h:∀p∈BI,s.heap.get? p.1=some p.2∧H p.1=none∧p.1≠X.env.locals∧p.1∉X.fs∧∀v,p.2.data≠ .cell v):Inv X BI σ H s:=
 ⟨I.ok,I.os,I.bare,I.base,I.loc,I.cell,I.free,I.freeC,fun p hp=>(List.mem_append.mp hp).elim (fun z=>I.pin p (List.mem_append_left _ z)) (h p),I.hok,I.len⟩
theorem qU{N:List Str}(hN:N.Nodup){i j:Nat}{x:Str}(a:N[i]? =some x)(b:N[j]? =some x):i=j:=by
 obtain⟨h1,e1⟩:=List.getElem?_eq_some_iff.mp a
 obtain⟨h2,e2⟩:=List.getElem?_eq_some_iff.mp b
 exact(List.getElem_inj hN).mp (e1.trans e2.symm)
theorem oh{M:Model}{A:Around}{E:Value→Shared→Prop}{i:Nat}{x:Str}{v:V}{u:Value}{Q:Unit→Shared→Prop}(I:Inv X pins σ H s)(hN:X.N.Nodup)(hi:X.N[i]? =some x)(hx:Loc X.env.scope x)(r:RelV v u)
 (h:∀s',Inv X pins (σ.set i (some v)) H s'→(∃a,Heap.SameBut a s.heap s'.heap∧(a=X.env.locals∨X.env.cells.lookup x=some a))→Q () s')(hf:X.fn x=true∨X.env.scope.names.lookup x=some .local:=by first | exact .inl rfl | exact .inr rfl | assumption):wpAny M A (storeName X.env x u) Q E s:=by
 obtain⟨m,hn,hl⟩:=id I.loc
 have G0:(X.env.scope.kind== .class||(X.env.scope.kind== .module&&X.env.locals !=X.env.globals))=false:=by rw[I.ok.kind];rfl
 have IQ:i<σ.length:=by rw[I.len];exact(List.getElem?_eq_some_iff.mp hi).1
 have cne:=I.cne
 have tracked:∀{a:Addr}{h':Heap},(∃o,s.heap.get? a=some o∧H a=none)→Heap.SameBut a s.heap h'→HOk X.prog X.w H h':=fun {a h'} ha hs b ob e=>by
  obtain⟨_,_,Bv⟩:=ha
  refine(I.hok b ob e).stay (fun c w' hc q=>(hs.2 c ?_).trans q) (fun _ q=>q) fun _ _ q=>q
  rintro rfl
  rcases hc with rfl | hc
  ·rw[Bv] at e;cases e
  ·rw[Bv] at hc;cases hc
 rcases hx with hk | hk
 ·refine wpAny_storeName_local hk hn (fun h' Cg hs=>?_) G0
  obtain⟨oL,_,_,Cm,_⟩:=id hn
  refine h _ ⟨I.ok,I.os,I.bare,⟨fun b o e n hb hx=>?_,fun b o e n hb hx=>?_,I.base.free,fun b o e hx=>?_,I.base.tups,I.base.frzs,I.base.tbls⟩,⟨_,Cg,fun j y v' e1 e2 e3=>?_⟩,fun y c e=>?_,I.free,I.freeC,fun p hp=>?_,tracked ⟨oL,Cm,I.free⟩ hs,by simpa using I.len⟩ ⟨_,hs, .inl rfl⟩
  ·exact(hs.2 b (Nat.ne_of_lt (Nat.lt_of_lt_of_le (Heap.lt_size e) I.ok.above))).trans (I.base.keep b o e n hb hx)
  ·obtain⟨sl,e1⟩:=I.base.slot b o e n hb hx
   exact⟨sl,(hs.2 b (Nat.ne_of_lt (Nat.lt_of_lt_of_le (Heap.lt_size e) I.ok.above))).trans e1⟩
  ·obtain⟨o',e1⟩:=I.base.there b o e hx
   exact⟨o',(hs.2 b (Nat.ne_of_lt (Nat.lt_of_lt_of_le (Heap.lt_size e) I.ok.above))).trans e1⟩
  ·by_cases hj:j=i
   ·subst hj
    rw[hi] at e1;cases e1
    rw[List.getElem?_set_self IQ] at e2
    cases e2
    exact⟨u,r, .inl ⟨hk,by simp⟩⟩
   ·rw[List.getElem?_set_ne (Ne.symm hj)] at e2
    obtain⟨u',r',q⟩:=hl j y v' e1 e2 e3
    refine⟨u',r',?_⟩
    rcases q with⟨k,e⟩ | ⟨k,c,e,z⟩
    ·refine .inl ⟨k,?_⟩
     have:y≠x:=fun e=>hj (qU hN e1 (e▸hi))
     simp[this,e]
    ·exact .inr ⟨k,c,e,z.sameBut hs (cne y c e)⟩
  ·obtain⟨w',z⟩:=I.cell y c e
   exact⟨w',z.sameBut hs (cne y c e)⟩
  ·obtain⟨e,n,ne,nf,d⟩:=I.pin p hp
   exact⟨(hs.2 p.1 ne).trans e,n,ne,nf,d⟩
 ·have G6:X.fn x=true:=by
   rcases hf with z | z
   ·exact z
   ·rw[z] at hk;cases hk
  obtain⟨c,hc⟩:=I.ok.has x (.inl hk)
  obtain⟨w',z⟩:=I.cell x c hc
  refine wpAny_storeName_cell I.ok.kind hk hc z (fun h' Br hs=>?_)
  obtain⟨oc,I8,Hd⟩:=id z
  refine h {s with heap:=h'} ⟨I.ok,I.os,I.bare,⟨fun b o e n hb hx=>?_,fun b o e n hb hx=>?_,I.base.free,fun b o e hx=>?_,I.base.tups,I.base.frzs,I.base.tbls⟩,⟨m,hn.sameBut hs (Ne.symm (cne x c hc)),fun j y v' e1 e2 e3=>?_⟩,fun y c' e=>?_,I.free,I.freeC,fun p hp=>?_,tracked ⟨oc,I8,I.freeC x c hc⟩ hs,by simpa using I.len⟩ ⟨c,hs, .inr hc⟩
  ·exact(hs.2 b (Nat.ne_of_lt (Nat.lt_of_lt_of_le (Heap.lt_size e) (I.ok.cab x c G6 hc)))).trans (I.base.keep b o e n hb hx)
  ·obtain⟨sl,e1⟩:=I.base.slot b o e n hb hx
   exact⟨sl,(hs.2 b (Nat.ne_of_lt (Nat.lt_of_lt_of_le (Heap.lt_size e) (I.ok.cab x c G6 hc)))).trans e1⟩
  ·obtain⟨o',e1⟩:=I.base.there b o e hx
   exact⟨o',(hs.2 b (Nat.ne_of_lt (Nat.lt_of_lt_of_le (Heap.lt_size e) (I.ok.cab x c G6 hc)))).trans e1⟩
  ·by_cases hj:j=i
   ·subst hj
    rw[hi] at e1;cases e1
    rw[List.getElem?_set_self IQ] at e2
    cases e2
    exact⟨u,r, .inr ⟨.inl hk,c,hc,Br⟩⟩
   ·rw[List.getElem?_set_ne (Ne.symm hj)] at e2
    obtain⟨u',r',q⟩:=hl j y v' e1 e2 e3
    refine⟨u',r',?_⟩
    rcases q with q | ⟨k,c',e,z'⟩
    ·exact .inl q
    ·refine .inr ⟨k,c',e,z'.sameBut hs ?_⟩
     rintro rfl
     exact hj (qU hN e1 (I.ok.inj _ _ _ e hc▸hi))
  ·by_cases Ga:c'=c
   ·subst Ga;exact⟨_,Br⟩
   ·obtain⟨w2,z2⟩:=I.cell y c' e
    exact⟨w2,z2.sameBut hs Ga⟩
  ·obtain⟨e,n,ne,nf,d⟩:=I.pin p hp
   refine⟨(hs.2 p.1 ?_).trans e,n,ne,nf,d⟩
   intro q
   rw[q,I8] at e
   have q':oc=p.2:=Option.some.inj e
   exact d w' (by rw[←q'];exact Hd)
theorem rP{M:Model}{A:Around}{E:Value→Shared→Prop}{i:Nat}{x:Str}{v:V}{u:Value}{Q:Unit→Shared→Prop}(I:Inv X pins σ H s)(hN:X.N.Nodup)(hi:X.N[i]? =some x)(hx:Loc X.env.scope x)(r:RelV v u)
 (h:∀s',Inv X pins (σ.set i (some v)) H s'→Q () s')(hf:X.fn x=true∨X.env.scope.names.lookup x=some .local:=by first | exact .inl rfl | exact .inr rfl | assumption):wpAny M A (storeName X.env x u) Q E s:=
 oh I hN hi hx r (fun s' I' _=>h s' I') hf
theorem Inv.call'{s':Shared}{ch:List Addr}(I:Inv X pins σ H s)(ho:s'.os=s.os)(u:Un (kE X.stack) ch H H' s.heap s'.heap)(hok:HOk X.prog X.w H' s'.heap)(hg:AllBare s'.gens)
 (zw:∀b∈ch,(b∈X.ex∨X.s₀.heap.objs.size≤b)∧b≠X.env.locals∧(∀x c,X.env.cells.lookup x=some c→c≠b)∧∀p∈X.pn++pins,p.1≠b):Inv X pins σ H' s':=by
 obtain⟨h',g',d',t',o'⟩:=s'
 have e:o'=s.os:=ho
 subst e
 exact I.call (g':=g') (t':=t') (d':=d') u hok hg zw
end
abbrev XK:=Value→Option Addr→Hp→Prop
abbrev St:=List (Option V)
abbrev VK:=V→Hp→Prop
abbrev TE:=St→Hp→VK→Prop
abbrev TT:=St→Hp→(Bool→Hp→Prop)→Prop
abbrev TA:=St→Hp→(List V→Hp→Prop)→Prop
structure Ends where
 nx:St→Hp→Prop
 rt:VK
 bk:St→Hp→Prop:=fun _ _=>False
 ct:St→Hp→Prop:=fun _ _=>False
abbrev TS:=Ends→St→Hp→Prop
def EP(X:Cx)(pins:List (Addr×Obj))(σ:St)(Q:VK)(u:Value)(s':Shared):Prop:=∃v H',Inv X pins σ H' s'∧RelV v u∧Q v H'
def TP(X:Cx)(pins:List (Addr×Obj))(σ:St)(Q:Bool→Hp→Prop)(b:Bool)(s':Shared):Prop:=∃H',Inv X pins σ H' s'∧Q b H'
def AP(X:Cx)(pins:List (Addr×Obj))(σ:St)(Q:List V→Hp→Prop)(us:List Value)(s':Shared):Prop:=∃vs H',Inv X pins σ H' s'∧Vals vs us∧Q vs H'
def SP(X:Cx)(pins:List (Addr×Obj))(D:Ends)(f:Flow)(s':Shared):Prop:=
 match f with
 | .next=>∃σ' H',Inv X pins σ' H' s'∧D.nx σ' H'
 | .brk=>∃σ' H',Inv X pins σ' H' s'∧D.bk σ' H'
 | .cont=>∃σ' H',Inv X pins σ' H' s'∧D.ct σ' H'
 | .ret u=>∃v σ' H',Inv X pins σ' H' s'∧RelV v u∧D.rt v H'
def PE(X:Cx)(e:Expr)(t:TE):Prop:=
 ∀(pins:List (Addr×Obj)) (s:Shared) (σ:St) (H:Hp) (Q:VK),Inv X pins σ H s→t σ H Q→wpAny (model X.prog X.w) X.A (eval e X.env) (EP X pins σ Q) X.xe s
def PT(X:Cx)(e:Expr)(t:TT):Prop:=
 ∀(pins:List (Addr×Obj)) (s:Shared) (σ:St) (H:Hp) (Q:Bool→Hp→Prop),Inv X pins σ H s→t σ H Q→wpAny (model X.prog X.w) X.A (isTrue e X.env (eval e X.env)) (TP X pins σ Q) X.xe s
def PW(X:Cx)(e:Expr)(t:TT):Prop:=
 ∀(whole:Sem Value) (pins:List (Addr×Obj)) (s:Shared) (σ:St) (H:Hp) (Q:Bool→Hp→Prop),Inv X pins σ H s→t σ H Q→wpAny (model X.prog X.w) X.A (isTrue e X.env whole) (TP X pins σ Q) X.xe s
theorem PW.pt{X:Cx}{e:Expr}{t:TT}(h:PW X e t):PT X e t:=h _
def PA(X:Cx)(es:List Expr)(t:TA):Prop:=
 ∀(pos:Pos) (pins:List (Addr×Obj)) (s:Shared) (σ:St) (H:Hp) (Q:List V→Hp→Prop),Inv X pins σ H s→t σ H Q→wpAny (model X.prog X.w) X.A (spliced (backTo pos (starEach es X.env))) (AP X pins σ Q) X.xe s
def PS(X:Cx)(st:Stmt)(t:TS):Prop:=
 ∀(pins:List (Addr×Obj)) (s:Shared) (σ:St) (H:Hp) (D:Ends),Inv X pins σ H s→t D σ H→wpAny (model X.prog X.w) X.A (exec st X.env) (SP X pins D) X.xe s
def PSs(X:Cx)(st:List Stmt)(t:TS):Prop:=
 ∀(pins:List (Addr×Obj)) (s:Shared) (σ:St) (H:Hp) (D:Ends),Inv X pins σ H s→t D σ H→wpAny (model X.prog X.w) X.A (execs st X.env) (SP X pins D) X.xe s
theorem bI{α:Type}{t:Sem α}{Q Q':α→Shared→Prop}{M:Model}{A:Around}{E:Value→Shared→Prop}{s:Shared}(h:wpAny M A t Q E s)(hQ:∀a s,Q a s→Q' a s):wpAny M A t Q' E s:=wpAny_mono h hQ fun _ _ x=>x
section
variable{X:Cx}
theorem bin{a b:Expr}{ta tb:TE}(ha:PE X a ta)(hb:PE X b tb){pins:List (Addr×Obj)}{s:Shared}{σ:St}{H:Hp}{R:V→V→Hp→Prop}(I:Inv X pins σ H s)(h:ta σ H fun x H1=>tb σ H1 fun y H2=>R x y H2)
 {α:Type}{Q:α→Shared→Prop}{f:Value→Value→Sem α}
 (hf:∀v u s2 x y H2,Inv X pins σ H2 s2→RelV x v→RelV y u→R x y H2→wpAny (model X.prog X.w) X.A (f v u) Q X.xe s2):
 wpAny (model X.prog X.w) X.A (eval a X.env) (fun v s₁=>wpAny (model X.prog X.w) X.A (eval b X.env) (fun u s₂=>wpAny (model X.prog X.w) X.A (f v u) Q X.xe s₂) X.xe s₁) X.xe s:=by
 refine bI (ha pins s σ H _ I h) fun v s1 ⟨x,H1,I1,r1,q1⟩=>?_
 refine bI (hb pins s1 σ H1 _ I1 q1) fun u s2 ⟨y,H2,I2,r2,q2⟩=>?_
 exact hf v u s2 x y H2 I2 r1 r2 q2
def mX(i:Nat):TE:=fun σ H Q=>∃v,σ[i]? =some (some v)∧Q v H
def tC(v:V):TE:=fun _ H Q=>Q v H
theorem Dk{i:Nat}{x:Str}{pos:Pos}(hN:X.N[i]? =some x)(hv:GC X.env.scope x)(hd:(x==("__debug__":Str))=false:=by decide)(wN:(x==("__classdict__":Str))=false:=by decide):PE X (.Name x pos) (mX i):=by
 intro pins s σ H Q I h
 obtain⟨v,e,h⟩:=h
 obtain⟨m,hn,hl⟩:=I.loc
 obtain⟨u,r,l⟩:=hl i x v hN e hv
 have fin:EP X pins σ Q u s:=⟨v,H,I,r,h⟩
 rcases l with⟨hk,hm⟩ | ⟨hk,c,hc,Bt⟩
 ·exact wpAny_Name (wpAny_loadName_local I.ok.kind hk hn hm fin) hd
 ·rcases hk with hk | hk
  ·exact wpAny_Name (wpAny_loadName_cell I.ok.kind hk hc Bt fin) hd
  ·exact wpAny_Name (wpAny_loadName_free I.ok.kind hk hc Bt fin wN) hd
theorem De{i j pos}:PE X (.Constant (.int i) j pos) (tC (.int i)):=fun _ _ _ H _ I h=>wpAny_Constant_int ⟨.int i,H,I.tok _,⟨_,rfl⟩,h⟩
theorem Ft{b j pos}:PE X (.Constant (.bool b) j pos) (tC (.bl b)):=fun _ _ _ H _ I h=>Constant_bool ⟨.bl b,H,I,rfl,h⟩
theorem Di{x j pos}:PE X (.Constant (.str x) j pos) (tC (.str x)):=fun _ _ _ H _ I h=>Calls.Constant_str ⟨.str x,H,I.tok _,⟨_,rfl⟩,h⟩
def Gl(X:Cx)(x:Str):Prop:=X.env.kindOf x=some .globalImplicit
theorem uI{E:Value→Shared→Prop}{pins:List (Addr×Obj)}{s:Shared}{σ:St}{H:Hp}{x:Str}{u:Value}{pos:Pos}{Q:Value→Shared→Prop}(I:Inv X pins σ H s)(hg:Gl X x)(hm:X.mg x=some u)(h:Q u s)
 (hd:(x==("__debug__":Str))=false:=by decide):wpAny (model X.prog X.w) X.A (eval (.Name x pos) X.env) Q E s:=
 Calls.Name_function_global I.ok.kind hg (Calls.loadGlobal_global (by rw[I.ok.glob];exact I.mod.glob.keeps I.bk) hm h) hd
theorem fR{E:Value→Shared→Prop}{pins:List (Addr×Obj)}{s:Shared}{σ:St}{H:Hp}{x:Str}{u:Value}{pos:Pos}{Q:Value→Shared→Prop}(I:Inv X pins σ H s)(hg:Gl X x)(hm:X.mg x=none)(hv:bootBuiltins x=some u)(h:Q u s)
 (hn:x≠"__name__":=by decide)(hd:(x==("__debug__":Str))=false:=by decide):wpAny (model X.prog X.w) X.A (eval (.Name x pos) X.env) Q E s:=by
 obtain⟨mb,h1,h2⟩:=I.mod.blt
 exact Calls.Name_function_global I.ok.kind hg (Calls.loadGlobal_builtin (by rw[I.ok.glob];exact I.mod.glob.keeps I.bk) hm (by rw[I.ok.blt];exact h1.keeps I.bk) ((h2 x hn).trans hv) h) hd
theorem AA{x:Str}{v:V}{u:Value}{pos:Pos}(hg:Gl X x)(hm:X.mg x=some u)(r:RelV v u)(hd:(x==("__debug__":Str))=false:=by decide):PE X (.Name x pos) (tC v):=
 fun _ _ _ H _ I h=>uI I hg hm ⟨v,H,I,r,h⟩ hd
theorem Ax{x:Str}{v:V}{u:Value}{pos:Pos}(hg:Gl X x)(hm:X.mg x=none)(hv:bootBuiltins x=some u)(r:RelV v u)(hn:x≠"__name__":=by decide)(hd:(x==("__debug__":Str))=false:=by decide):PE X (.Name x pos) (tC v):=
 fun _ _ _ H _ I h=>fR I hg hm hv ⟨v,H,I,r,h⟩ hn hd
variable{a b:Expr}{ta tb:TE}{pos:Pos}
def PC(X:Cx)(op:CmpOp)(a b:Expr)(t:TE):Prop:=
 ∀(pins:List (Addr×Obj)) (s:Shared) (σ:St) (H:Hp) (Q:VK),Inv X pins σ H s→t σ H Q→
  wpAny (model X.prog X.w) X.A (eval a X.env) (fun v s₁=>wpAny (model X.prog X.w) X.A (eval b X.env) (fun u s₂=>wpAny (model X.prog X.w) X.A (compareOp op v u) (EP X pins σ Q) X.xe s₂) X.xe s₁) X.xe s
theorem yd(b:Expr){op:CmpOp}(h:op≠ .In)(h2:op≠ .NotIn):behindInMarks op b=false:=by
 have e1:(op==CmpOp.In)=false:=by cases op<;>first | rfl | exact absurd rfl h
 have e2:(op==CmpOp.NotIn)=false:=by cases op<;>first | rfl | exact absurd rfl h2
 cases b<;>simp[behindInMarks,e1,e2]
theorem Dd{op:CmpOp}{t:TE}(h:PC X op a b t)(h1:behindInMarks op b=false:=by first | exact yd _ (by decide) (by decide) | rfl):PE X (.Compare a [op] [b] pos) t:=fun pins s σ H Q I hw=>wpAny_Compare1 (h pins s σ H Q I hw) h1
variable{tA b_:TT}{rest:List Expr}
def HV(t u:TT):TT:=fun σ H Q=>t σ H fun c H1=>if c=true then u σ H1 Q else Q false H1
def KW(t u:TT):TT:=fun σ H Q=>t σ H fun c H1=>if c=true then Q true H1 else u σ H1 Q
def Ia(t:TT):TT:=fun σ H Q=>t σ H fun c H1=>Q (!c) H1
theorem AN(ha:PT X a tA):PW X (.BoolOp .And [a] pos) tA:=by
 intro wh pins s σ H Q I h
 refine isTrue_and (bI (ha pins s σ H Q I h) fun c s1 e=>?_)
 cases c with
 |true=>exact isTrue_and_nil e
 |false=>exact e
theorem Dw(ha:PT X a tA):PW X (.BoolOp .Or [a] pos) tA:=by
 intro wh pins s σ H Q I h
 refine isTrue_or (bI (ha pins s σ H Q I h) fun c s1 e=>?_)
 cases c with
 |false=>exact isTrue_or_nil e
 |true=>exact e
theorem Dv(ha:PT X a tA)(hb:PW X (.BoolOp .And (b::rest) pos) b_):PW X (.BoolOp .And (a::b::rest) pos) (HV tA b_):=by
 intro wh pins s σ H Q I h
 refine isTrue_and (bI (ha pins s σ H _ I h) fun c s1 ⟨H1,I1,q1⟩=>?_)
 cases c with
 |true=>exact hb wh pins s1 σ H1 Q I1 q1
 |false=>exact⟨H1,I1,q1⟩
theorem Fz(ha:PT X a tA)(hb:PW X (.BoolOp .Or (b::rest) pos) b_):PW X (.BoolOp .Or (a::b::rest) pos) (KW tA b_):=by
 intro wh pins s σ H Q I h
 refine isTrue_or (bI (ha pins s σ H _ I h) fun c s1 ⟨H1,I1,q1⟩=>?_)
 cases c with
 |true=>exact⟨H1,I1,q1⟩
 |false=>exact hb wh pins s1 σ H1 Q I1 q1
theorem Du(ha:PT X a tA):PT X (.UnaryOp .Not a pos) (Ia tA):=by
 intro pins s σ H Q I h
 exact isTrue_not (ha pins s σ H (fun c H1=>Q (!c) H1) I h)
def FO(ta tb:TE):TE:=fun σ H Q=>ta σ H fun x H1=>∃c,x= .bl c∧if c=true then tb σ H1 Q else Q (.bl false) H1
def FR(ta:TE):TE:=fun σ H Q=>ta σ H fun x H1=>∃c,x= .bl c∧Q (.bl (!c)) H1
theorem Dg{op}{t:TE}(h:PE X a t):PE X (.BoolOp op [a] pos) t:=fun pins s σ H Q I hw=>BoolOp_one (h pins s σ H Q I hw)
theorem Dc(ha:PE X a ta)(hb:PE X (.BoolOp .And (b::rest) pos) tb):PE X (.BoolOp .And (a::b::rest) pos) (FO ta tb):=by
 intro pins s σ H Q I h
 refine BoolOp_and (bI (ha pins s σ H _ I h) fun v s1 ⟨x,H1,I1,r1,q1⟩=>?_)
 obtain⟨c,rfl,q1⟩:=q1
 cases r1
 refine wpAny_truthy_bool ?_
 cases c with
 |true=>exact hb pins s1 σ H1 Q I1 q1
 |false=>exact⟨.bl false,H1,I1,rfl,q1⟩
theorem Df(ha:PE X a ta):PE X (.UnaryOp .Not a pos) (FR ta):=by
 intro pins s σ H Q I h
 refine UnaryOp_ (bI (ha pins s σ H _ I h) fun v s1 ⟨x,H1,I1,r1,q1⟩=>?_)
 obtain⟨c,rfl,q1⟩:=q1
 cases r1
 exact not_of (wpAny_truthy_bool ⟨.bl (!c),H1,I1,rfl,q1⟩)
def KU(t:TT)(ta tb:TE):TE:=fun σ H Q=>t σ H fun c H1=>if c=true then ta σ H1 Q else tb σ H1 Q
theorem yF{c:Expr}(hc:PT X c tA)(ha:PE X a ta)(hb:PE X b tb):PE X (.IfExp c a b pos) (KU tA ta tb):=by
 intro pins s σ H Q I h
 refine wpAny_IfExp (bI (hc pins s σ H _ I h) fun d s1 ⟨H1,I1,q1⟩=>?_)
 cases d with
 |true=>exact ha pins s1 σ H1 Q I1 q1
 |false=>exact hb pins s1 σ H1 Q I1 q1
end
def SqL(K:W.Frag)(H:Hp)(a:Addr)(xs:List V):Prop:=
 Rd H a (.lst xs)∨
  ∃(o:Obj) (aA:Array Value) (n:Nat),K.lookup a=some o∧o.cls= .type "list"∧o.dict=none∧o.data= .seq aA n∧aA.size≤sizeLine∧Vals xs aA.toList
def SqT(K:W.Frag)(H:Hp)(a:Addr)(xs:List V):Prop:=
 Rd H a (.tup xs)∨
  ∃(o:Obj) (aA:Array Value) (n:Nat),K.lookup a=some o∧o.cls= .type "tuple"∧o.data= .seq aA n∧aA.size≤sizeLine∧Vals xs aA.toList
def GD:Value→Option V
 | .none=>some .non
 | .bool b=>some (.bl b)
 | .int i _=>some (.int i)
 | .str x _=>some (.str x)
 | .bytes b _=>some (.byt b)
 | .float b _=>some (.flt b)
 | .ref a=>some (.ref a)
 | .type n=>some (.ty n)
 |_=>none
theorem RelV.abs{x:V}{u:Value}(r:RelV x u):GD u=some x:=by
 cases x with
 |non=>cases r;rfl
 |bl _=>cases r;rfl
 |int _=>obtain⟨t,rfl⟩:=r;rfl
 |str _=>obtain⟨t,rfl⟩:=r;rfl
 |byt _=>obtain⟨t,rfl⟩:=r;rfl
 |flt _=>obtain⟨t,rfl⟩:=r;rfl
 |ref _=>cases r;rfl
 |ty _=>cases r;rfl
theorem RelV.inj{x y:V}{u:Value}(r:RelV x u)(q:RelV y u):x=y:=Option.some.inj (r.abs.symm.trans q.abs)
theorem Vals.inj:∀{xs ys:List V}{us:List Value},Vals xs us→Vals ys us→xs=ys
 |_,_,_, .nil, .nil=>rfl
 |_,_,_, .cons r t, .cons r' t'=>by rw[r.inj r',Vals.inj t t']
section
variable{X:Cx}{pins:List (Addr×Obj)}{σ:St}{H:Hp}{s:Shared}{a:Addr}{xs ys:List V}
theorem SqL.of{K:W.Frag}(h:H a=some (.lst xs)):SqL K H a xs:= .inl (.inl h)
theorem SqT.of{K:W.Frag}(h:H a=some (.tup xs)):SqT K H a xs:= .inl (.inl h)
theorem Inv.list(I:Inv X pins σ H s)(h:SqL X.K H a xs):∃aA:List Value,Vals xs aA∧PlainL s.heap a aA.toArray∧xs.length≤sizeLine:=by
 rcases h with h | ⟨o,aA,n,hk,hc,hd,hs,hz,r⟩
 ·obtain⟨z,aA,n,r,e⟩:=h.ok I.hok
  exact⟨aA,r,⟨_,n,e,rfl,rfl,rfl⟩,z⟩
 ·refine⟨aA.toList,r,⟨o,n,I.kIn a o hk,hc,hd,by simpa using hs⟩,?_⟩
  have e:=r.length
  simp only[Array.length_toList] at e
  omega
theorem Inv.tuple(I:Inv X pins σ H s)(h:SqT X.K H a xs):∃aA:List Value,Vals xs aA∧IsTup s.heap a aA.toArray∧xs.length≤sizeLine:=by
 rcases h with h | ⟨o,aA,n,hk,hc,hs,hz,r⟩
 ·obtain⟨z,aA,r,p⟩:=h.ok I.hok
  exact⟨aA,r,p,z⟩
 ·refine⟨aA.toList,r,⟨o,I.kIn a o hk,hc,n,by simpa using hs⟩,?_⟩
  have e:=r.length
  simp only[Array.length_toList] at e
  omega
theorem Inv.list_inj(I:Inv X pins σ H s)(h:SqL X.K H a xs)(h':SqL X.K H a ys):xs=ys:=by
 obtain⟨aA,r,⟨o,n,e,_,_,d⟩,_⟩:=I.list h
 obtain⟨its',r',⟨o',n',e',_,_,d'⟩,_⟩:=I.list h'
 rw[e] at e';cases e'
 rw[d] at d'
 injection d' with d1 _
 have:aA=its':=by simpa using congrArg Array.toList d1
 subst this
 exact r.inj r'
theorem Inv.tuple_inj(I:Inv X pins σ H s)(h:SqT X.K H a xs)(h':SqT X.K H a ys):xs=ys:=by
 obtain⟨aA,r,⟨o,e,_,n,d⟩,_⟩:=I.tuple h
 obtain⟨its',r',⟨o',e',_,n',d'⟩,_⟩:=I.tuple h'
 rw[e] at e';cases e'
 rw[d] at d'
 injection d' with d1 _
 have:aA=its':=by simpa using congrArg Array.toList d1
 subst this
 exact r.inj r'
end
abbrev Cx.wish(X:Cx)(E:Value→Shared→Prop):Cx:={X with xe:=E}
abbrev Cx.nox(X:Cx):Cx:=X.wish fun _ _=>False
theorem Cx.Ok.wish{X:Cx}(ok:X.Ok)(E:Value→Shared→Prop):(X.wish E).Ok:=
 ⟨ok.mod,ok.kind,ok.glob,ok.blt,ok.above,ok.inj,ok.has,ok.cab,ok.hd,ok.frames,ok.stk,ok.exf,ok.bs,ok.bsz,ok.noex,ok.exfs,ok.funs,ok.frf⟩
theorem Cx.Ok.unwish{X:Cx}{E:Value→Shared→Prop}(ok:(X.wish E).Ok):X.Ok:=
 ⟨ok.mod,ok.kind,ok.glob,ok.blt,ok.above,ok.inj,ok.has,ok.cab,ok.hd,ok.frames,ok.stk,ok.exf,ok.bs,ok.bsz,ok.noex,ok.exfs,ok.funs,ok.frf⟩
section
variable{X:Cx}{pins:List (Addr×Obj)}{σ:St}{H:Hp}{s:Shared}{E:Value→Shared→Prop}
theorem Inv.wish(I:Inv X pins σ H s)(E:Value→Shared→Prop):Inv (X.wish E) pins σ H s:=⟨I.ok.wish E,I.os,I.bare,I.base,I.loc,I.cell,I.free,I.freeC,I.pin,I.hok,I.len⟩
theorem Inv.unwish(I:Inv (X.wish E) pins σ H s):Inv X pins σ H s:=⟨I.ok.unwish,I.os,I.bare,I.base,I.loc,I.cell,I.free,I.freeC,I.pin,I.hok,I.len⟩
theorem SP.unwish{D:Ends}{f:Flow}{s':Shared}(h:SP (X.wish E) pins D f s'):SP X pins D f s':=by
 cases f with
 |next=>obtain⟨σ',H',I,q⟩:=h;exact⟨σ',H',I.unwish,q⟩
 |brk=>obtain⟨σ',H',I,q⟩:=h;exact⟨σ',H',I.unwish,q⟩
 |cont=>obtain⟨σ',H',I,q⟩:=h;exact⟨σ',H',I.unwish,q⟩
 |ret u=>obtain⟨v,σ',H',I,r,q⟩:=h;exact⟨v,σ',H',I.unwish,r,q⟩
end
section
variable{X:Cx}{st:Stmt}{rest:List Stmt}{t u:TS}{e:Expr}{te:TE}{pos:Pos}
def FQ:TS:=fun D σ H=>D.nx σ H
def Ic(t u:TS):TS:=fun D σ H=>t {D with nx:=u D} σ H
theorem AJ:PSs X [] FQ:=fun _ _ σ H _ I h=>wpAny_execs_nil ⟨σ,H,I,h⟩
theorem yL(h1:PS X st t)(h2:PSs X rest u):PSs X (st::rest) (Ic t u):=by
 intro pins s σ H D I h
 refine wpAny_execs_cons (bI (h1 pins s σ H {D with nx:=u D} I h) fun f s1 q=>?_)
 cases f with
 |next=>
  obtain⟨σ',H',I',q⟩:=q
  exact h2 pins s1 σ' H' D I' q
 |ret v=>exact q
 |brk=>exact q
 |cont=>exact q
theorem AK(h1:PS X st t):PSs X [st] t:=by
 intro pins s σ H D I h
 refine wpAny_execs_cons (bI (h1 pins s σ H D I h) fun f s1 q=>?_)
 cases f with
 |next=>exact wpAny_execs_nil q
 |ret v=>exact q
 |brk=>exact q
 |cont=>exact q
theorem Inv.quiet{pins:List (Addr×Obj)}{σ:St}{H:Hp}{s:Shared}(I:Inv X pins σ H s):interactive X.env=false:=by simp[interactive,I.ok.kind]
def zi(te:TE):TS:=fun D σ H=>te σ H fun _ H1=>D.nx σ H1
theorem pG(he:PE X e te)(hs:swapsWith e none pos.line X.env=pure false:=by rfl):PS X (.Expr e pos) (zi te):=by
 intro pins s σ H D I h
 exact wpAny_Expr_any (bI (he pins s σ H _ I h) fun v s1 ⟨x,H1,I1,r1,q1⟩=>⟨σ,H1,I1,q1⟩) I.quiet hs
def Ib(te:TE):TS:=fun D σ H=>te σ H D.rt
theorem Dr(he:PE X e te):PS X (.Return (some e) pos) (Ib te):=by
 intro pins s σ H D I h
 exact wpAny_Return_some (bI (he pins s σ H _ I h) fun v s1 ⟨x,H1,I1,r1,q1⟩=>⟨x,σ,H1,I1,r1,q1⟩)
def H9(c:TT)(t u:TS):TS:=fun D σ H=>c σ H fun b H1=>if b=true then t D σ H1 else u D σ H1
theorem Fx{c:Expr}{a b:List Stmt}{tc:TT}(hc:PT X c tc)(ha:PSs X a t)(hb:PSs X b u):PS X (.If c a b pos) (H9 tc t u):=by
 intro pins s σ H D I h
 refine wpAny_If (bI (hc pins s σ H _ I h) fun d s1 ⟨H1,I1,q1⟩=>?_)
 cases d with
 |true=>exact ha pins s1 σ H1 D I1 q1
 |false=>exact hb pins s1 σ H1 D I1 q1
end
abbrev TG:=V→St→Hp→(St→Hp→Prop)→Prop
abbrev A_:=List V→St→Hp→(St→Hp→Prop)→Prop
def PG(X:Cx)(target:Expr)(t:TG):Prop:=
 ∀(pins:List (Addr×Obj)) (s:Shared) (σ:St) (H:Hp) (v:V) (u:Value) (Q:St→Hp→Prop),Inv X pins σ H s→RelV v u→t v σ H Q→
  wpAny (model X.prog X.w) X.A (assign target X.env u) (fun _ s'=>∃σ' H',Inv X pins σ' H' s'∧Q σ' H') X.xe s
def F0(X:Cx)(ts:List Expr)(t:A_):Prop:=
 ∀(pins:List (Addr×Obj)) (s:Shared) (σ:St) (H:Hp) (vs:List V) (us:List Value) (Q:St→Hp→Prop),Inv X pins σ H s→Vals vs us→t vs σ H Q→
  wpAny (model X.prog X.w) X.A (assignInOrder ((assignEach ts X.env).map (·.2)) us) (fun _ s'=>∃σ' H',Inv X pins σ' H' s'∧Q σ' H') X.xe s
abbrev Gy:=V→V→V→Hp→(Hp→Prop)→Prop
section
variable{X:Cx}{pos:Pos}
def xC(i:Nat):TG:=fun v σ H Q=>Q (σ.set i (some v)) H
theorem cf{i:Nat}{x:Str}(hN:X.N.Nodup)(hi:X.N[i]? =some x)(hx:Loc X.env.scope x)(hf:X.fn x=true∨X.env.scope.names.lookup x=some .local:=by first | exact .inl rfl | exact .inr rfl | assumption):PG X (.Name x pos) (xC i):=by
 intro pins s σ H v u Q I r h
 exact wpAny_assign_Name (rP I hN hi hx r (fun s' I'=>⟨_,H,I',h⟩) hf)
def EB:A_:=fun vs σ H Q=>vs=[]∧Q σ H
def Bq(t:TG)(u:A_):A_:=fun vs σ H Q=>∃v r,vs=v::r∧t v σ H fun σ' H'=>u r σ' H' Q
theorem AB:F0 X [] EB:=by
 intro pins s σ H vs us Q I r h
 obtain⟨e,h⟩:=h
 subst e
 cases r
 exact assignInOrder_nil ⟨σ,H,I,h⟩
theorem ro{e:Expr}{es:List Expr}{t:TG}{u:A_}(h1:PG X e t)(h2:F0 X es u)
 (hs:(assignEach (e::es) X.env).map (·.2)=assign e X.env::(assignEach es X.env).map (·.2):=by rfl):F0 X (e::es) (Bq t u):=by
 intro pins s σ H vs us Q I r h
 obtain⟨v,vr,e1,h⟩:=h
 subst e1
 cases r with
 |cons r rr=>
  rw[hs]
  refine assignInOrder_cons (bI (h1 pins s σ H _ _ _ I r h) fun _ s1 ⟨σ1,H1,I1,q1⟩=>?_)
  exact h2 pins s1 σ1 H1 _ _ Q I1 rr q1
def EC(K:W.Frag)(n:Nat)(t:A_):TG:=fun v σ H Q=>∃a xs,v= .ref a∧SqT K H a xs∧xs.length=n∧t xs σ H Q
theorem Dl{es:List Expr}{k:Nat}{t:A_}{n:Nat}(hc:X.calm=true)(h:F0 X es t)
 (hn:(assignEach es X.env).length=n:=by rfl)(qF:(assignEach es X.env).findIdx? (·.1)=none:=by rfl):PG X (.Tuple es k pos) (EC X.K n t):=by
 intro pins s σ H v u Q I r hw
 obtain⟨a,xs,e1,hq,hl,hw⟩:=hw
 subst e1
 cases r
 obtain⟨aA,rv,ht,hz⟩:=I.tuple hq
 refine assign_Tuple_tuple (I.ok.hd hc) ht (by simp[hn,←hl,rv.length]) qF fun h' hx=>?_
 have I1:Inv X pins σ H {s with heap:=h'}:=I.kept (t':=s.toks) fun b o e=>hx b o (Nat.ne_of_lt (Heap.lt_size e)) e
 exact h pins _ σ H xs _ Q I1 (by simpa using rv) hw
def sI(to ti:TE)(t:Gy):TG:=fun v σ H Q=>to σ H fun o H1=>ti σ H1 fun i H2=>t o i v H2 fun H3=>Q σ H3
def HW(te:TE)(g:TG):TS:=fun D σ H=>te σ H fun x H1=>g x σ H1 D.nx
theorem tK{tg e:Expr}{te:TE}{g:TG}(he:PE X e te)(hg:PG X tg g)(hs:swapsWithSole [tg] e pos.line X.env=pure false:=by rfl)(hw:swappedStores [tg] e X.env=pure none:=by rfl)
 (h1:(assignEach [tg] X.env).map (·.2)=[assign tg X.env]:=by rfl):PS X (.Assign [tg] e pos) (HW te g):=by
 intro pins s σ H D I h
 refine wpAny_Assign_stores (bI (he pins s σ H _ I h) fun v s1 ⟨x,H1,I1,r1,q1⟩=>?_) hs hw
 rw[h1]
 exact bI (hg pins s1 σ H1 x v _ I1 r1 q1) fun _ s2 q=>q
end
section
variable{X:Cx}{pos:Pos}
end
structure It where
 go:Nat→Hp→Prop
 yld:Nat→Hp→V→Hp→Prop
 stop:Nat→Hp→Prop
def qc(X:Cx)(pins:List (Addr×Obj))(H:Hp)(b:Addr):Prop:=
 H b=none∧b≠X.env.locals∧b∉X.fs∧(b∈X.ex∨X.s₀.heap.objs.size≤b)∧(∀x c,X.env.cells.lookup x=some c→c≠b)∧∀p∈X.pn++pins,p.1≠b
theorem Inv.fpOk{X:Cx}{pins:List (Addr×Obj)}{σ:St}{H H':Hp}{s:Shared}{b:Addr}(I:Inv X pins σ H s)(hb:s.heap.objs.size≤b)(hn:H' b=none):qc X pins H' b:=by
 refine⟨hn,Nat.ne_of_gt (Nat.lt_of_lt_of_le I.lt hb),I.nofs hb, .inr (Nat.le_trans I.sz hb),fun x c e z=>?_,fun p hp z=>?_⟩
 ·obtain⟨v,q⟩:=I.cell x c e
  exact absurd (Nat.lt_of_lt_of_le q.lt (by rw[z];exact hb)) (Nat.lt_irrefl _)
 ·exact absurd (Nat.lt_of_lt_of_le (Heap.lt_size (I.pin p hp).1) (by rw[z];exact hb)) (Nat.lt_irrefl _)
structure Turn (P:Program) (w:World) (K:W.Frag) (tg:Expr) (J:It) (fp:List Addr) (it:Addr) (tn:Nat→Heap→Prop):Prop where
 mem:it∈fp
 obj:∀i h,tn i h→∀b∈fp,∃o,h.get? b=some o∧∀v,o.data≠ .cell v
 keep:∀i h h',tn i h→(∀b∈fp,∀o,h.get? b=some o→h'.get? b=some o)→tn i h'
 item:∀(X:Cx),X.prog=P→X.w=w→X.K=K→X.calm=true→∀(i:Nat) (pins:List (Addr×Obj)) (s:Shared) (σ:St) (H:Hp) (E:Value→Shared→Prop),Inv X pins σ H s→(∀b∈fp,qc X pins H b)→tn i s.heap→J.go i H→
  wpAny (model P w) X.A (pyNext (.ref it)) (fun r s1=>∃u,r=some u∧
   wpAny (model P w) X.A (letOwnedTupleGo tg (.ref it) u) (fun _ s2=>∃x H',Inv X pins σ H' s2∧RelV x u∧J.yld i H x H'∧tn (i+1) s2.heap∧∀b∈fp,H' b=none) E s1) E s
 done:∀(X:Cx),X.prog=P→X.w=w→X.K=K→X.calm=true→∀(i:Nat) (pins:List (Addr×Obj)) (s:Shared) (σ:St) (H:Hp) (E:Value→Shared→Prop),Inv X pins σ H s→(∀b∈fp,qc X pins H b)→tn i s.heap→J.stop i H→
  wpAny (model P w) X.A (pyNext (.ref it)) (fun r s1=>r=none∧Inv X pins σ H s1) E s
 self:∀(A:Around) (i:Nat) (s:Shared) (Q:Value→Shared→Prop) (E:Value→Shared→Prop),tn i s.heap→Q (.ref it) s→wpAny (model P w) A (pyIter (.ref it)) Q E s
abbrev TI:=St→Hp→(It→Hp→Prop)→Prop
def Im(X:Cx)(pins:List (Addr×Obj))(σ:St)(tg:Expr)(R:It→Hp→Prop)(Ji:Value)(s2:Shared):Prop:=
 ∃(it:Addr) (fp:List Addr) (tn:Nat→Heap→Prop) (J:It) (H':Hp),Ji= .ref it∧Inv X pins σ H' s2∧Turn X.prog X.w X.K tg J fp it tn∧tn 0 s2.heap∧(∀b∈fp,qc X pins H' b)∧R J H'
def PI(X:Cx)(tg iter:Expr)(wi:TI):Prop:=
 ∀(pins:List (Addr×Obj)) (s:Shared) (σ:St) (H:Hp) (R:It→Hp→Prop),Inv X pins σ H s→wi σ H R→
  wpAny (model X.prog X.w) X.A (eval iter X.env) (fun v s1=>wpAny (model X.prog X.w) X.A (pyIter v) (Im X pins σ tg R) X.xe s1) X.xe s
theorem k_{M:Model}{A:Around}{E:Value→Shared→Prop}{s:Shared}{tg:Expr}{it:Addr}{u:Value}{o:Obj}{n:String}{vs:Array Value}{Q:Unit→Shared→Prop}(ho:s.heap.get? it=some o)(hc:o.cls= .type n)(hd:o.data= .fields vs)
 (hn:["enumerate","zip","dict_itemiterator","dict_reverseitemiterator","odict_iterator","itertools.zip_longest","itertools.pairwise"].contains n=false)(hQ:Q () s):wpAny M A (letOwnedTupleGo tg (.ref it) u) Q E s:=by
 unfold letOwnedTupleGo
 cases tg<;>first
  |exact wpAny_pure hQ
  |(cases u<;>first
    |exact wpAny_pure hQ
    |(refine wpAny_bind (wpAny_load ho ?_)
      rw[hc,hd]
      show wpAny M A (if (["enumerate","zip","dict_itemiterator","dict_reverseitemiterator","odict_iterator","itertools.zip_longest","itertools.pairwise"].contains n&&vs[0]? ==some (rawInt _))=true then _ else _) Q E s
      rw[if_neg (by intro h;rw[hn,Bool.false_and] at h;cases h)]
      exact wpAny_pure hQ))
def Gv(K:W.Frag)(a:Addr):It:=
 ⟨fun i H=>∃xs x,SqL K H a xs∧xs[i]? =some x,fun i H x H'=>H'=H∧∀xs,SqL K H a xs→xs[i]? =some x,fun i H=>∃xs,SqL K H a xs∧xs.length≤i⟩
def Gw(K:W.Frag)(a:Addr):It:=
 ⟨fun i H=>∃xs x,SqT K H a xs∧xs[i]? =some x,fun i H x H'=>H'=H∧∀xs,SqT K H a xs→xs[i]? =some x,fun i H=>∃xs,SqT K H a xs∧xs.length≤i⟩
def Ec(lo:Int)(n:Nat):It:=⟨fun i _=>i<n,fun i H x H'=>H'=H∧x= .int (lo+i),fun i _=>n≤i⟩
theorem wG{P:Program}{w:World}{K:W.Frag}{tg:Expr}(a it:Addr):Turn P w K tg (Gv K a) [it] it (fun i h=>h.IsListIter it a i) where
 mem:=by simp
 obj:=fun i h st b hb=>by
  have e:b=it:=by simpa using hb
  subst e
  obtain⟨o,e,c,d⟩:=st
  exact⟨o,e,fun v z=>by rw[d] at z;cases z⟩
 keep:=fun i h h' st k=>st.at fun o e=>k it (by simp) o e
 item:=by
  intro X hP hw hK hc i pins s σ H E I hf st hg
  subst hP hw hK
  obtain⟨xs,x,hq,hx⟩:=hg
  obtain⟨aA,rv,p,hz⟩:=I.list hq
  obtain⟨u,hu,ru⟩:=rv.get hx
  obtain⟨f0,f1,f2,f3,f4,f5⟩:=hf it (by simp)
  refine wpAny_pyNext_list_item st p.isList (x:=u) (by simpa using hu) fun h' jB sb=>?_
  have I1:Inv X pins σ H {s with heap:=h'}:=I.turned (t':=s.toks) (fun b o hb e=>(sb.2 b hb).trans e) f0 f1 f3 f4 f5
  obtain⟨o,e,c,d⟩:=id jB
  exact⟨u,rfl,k_ (s:={s with heap:=h'}) e c d (by decide) ⟨x,H,I1,ru,⟨rfl,fun ys hy=>by rw[I.list_inj hy hq];exact hx⟩,jB,fun b hb=>(hf b hb).1⟩⟩
 done:=by
  intro X hP hw hK hc i pins s σ H E I hf st hg
  subst hP hw hK
  obtain⟨xs,hq,hx⟩:=hg
  obtain⟨aA,rv,p,hz⟩:=I.list hq
  obtain⟨f0,f1,f2,f3,f4,f5⟩:=hf it (by simp)
  have hl:=rv.length
  exact wpAny_pyNext_list_end (I.ok.hd hc) st p.isList (by simp;omega) fun h' eb=>⟨rfl,I.turned (t':=s.toks) (fun b o hb e=>eb b o hb e) f0 f1 f3 f4 f5⟩
 self:=fun _ _ _ _ _ st h=>wpAny_pyIter_listiter st h
theorem tY{P:Program}{w:World}{K:W.Frag}{tg:Expr}(a it:Addr):Turn P w K tg (Gw K a) [it] it (fun i h=>h.IsTupleIter it a i) where
 mem:=by simp
 obj:=fun i h st b hb=>by
  have e:b=it:=by simpa using hb
  subst e
  obtain⟨o,e,c,d⟩:=st
  exact⟨o,e,fun v z=>by rw[d] at z;cases z⟩
 keep:=fun i h h' st k=>st.at fun o e=>k it (by simp) o e
 item:=by
  intro X hP hw hK hc i pins s σ H E I hf st hg
  subst hP hw hK
  obtain⟨xs,x,hq,hx⟩:=hg
  obtain⟨aA,rv,p,hz⟩:=I.tuple hq
  obtain⟨u,hu,ru⟩:=rv.get hx
  obtain⟨f0,f1,f2,f3,f4,f5⟩:=hf it (by simp)
  refine wpAny_pyNext_tuple_item st (show s.heap.IsTuple a aA.toArray from p) (x:=u) (by simpa using hu) fun h' jB sb=>?_
  have I1:Inv X pins σ H {s with heap:=h'}:=I.turned (t':=s.toks) (fun b o hb e=>(sb.2 b hb).trans e) f0 f1 f3 f4 f5
  obtain⟨o,e,c,d⟩:=id jB
  exact⟨u,rfl,k_ (s:={s with heap:=h'}) e c d (by decide) ⟨x,H,I1,ru,⟨rfl,fun ys hy=>by rw[I.tuple_inj hy hq];exact hx⟩,jB,fun b hb=>(hf b hb).1⟩⟩
 done:=by
  intro X hP hw hK hc i pins s σ H E I hf st hg
  subst hP hw hK
  obtain⟨xs,hq,hx⟩:=hg
  obtain⟨aA,rv,p,hz⟩:=I.tuple hq
  obtain⟨f0,f1,f2,f3,f4,f5⟩:=hf it (by simp)
  have hl:=rv.length
  exact wpAny_pyNext_tuple_end (I.ok.hd hc) st (show s.heap.IsTuple a aA.toArray from p) (by simp;omega) fun h' eb=>⟨rfl,I.turned (t':=s.toks) (fun b o hb e=>eb b o hb e) f0 f1 f3 f4 f5⟩
 self:=fun _ _ _ _ _ st h=>wpAny_pyIter_tupleiter st h
theorem tX{P:Program}{w:World}{K:W.Frag}{tg:Expr}(it:Addr)(lo:Int)(n:Nat):Turn P w K tg (Ec lo n) [it] it (fun i h=>IsRangeIter h it (lo+(i:Nat)*1) ((n:Int) - (i:Nat)) 1) where
 mem:=by simp
 obj:=fun i h st b hb=>by
  have e:b=it:=by simpa using hb
  subst e
  exact⟨_,st,fun v z=>by
   have z':Data.fields _=Data.cell v:=z
   cases z'⟩
 keep:=fun i h h' st k=>k it (by simp) _ st
 item:=by
  intro X hP hw hK hc i pins s σ H E I hf st hg
  subst hP hw hK
  obtain⟨f0,f1,f2,f3,f4,f5⟩:=hf it (by simp)
  have W:=Walks.range (prog:=X.prog) (w:=X.w) (I.ok.hd hc) it lo 1 n
  refine W.item i s _ _ hg st fun v h' tk hv jB kk=>?_
  obtain⟨t,rfl⟩:=hv
  have I1:Inv X pins σ H {s with heap:=h',toks:=tk}:=I.turned (fun b o hb e=>kk b o (by simpa using hb) e) f0 f1 f3 f4 f5
  refine⟨_,rfl,k_ (s:={s with heap:=h',toks:=tk}) (n:="range_iterator") jB rfl rfl (by decide) ⟨.int (lo+i),H,I1,⟨t,?_⟩,⟨rfl,rfl⟩,jB,fun b hb=>(hf b hb).1⟩⟩
  rw[Int.mul_one]
 done:=by
  intro X hP hw hK hc i pins s σ H E I hf st hg
  subst hP hw hK
  obtain⟨f0,f1,f2,f3,f4,f5⟩:=hf it (by simp)
  exact wpAny_pyNext_range_end (I.ok.hd hc) st (by have:n≤i:=hg;omega) fun h' eb=>⟨rfl,I.turned (t':=s.toks) (fun b o hb e=>eb b o hb e) f0 f1 f3 f4 f5⟩
 self:=fun _ _ _ _ _ st h=>wpAny_pyIter_rangeiter st h
section
variable{X:Cx}{tg:Expr}
def E9(K:W.Frag)(tl:TE):TI:=fun σ H R=>tl σ H fun x H1=>∃a,x= .ref a∧(∃xs,SqL K H1 a xs)∧R (Gv K a) H1
def Hv(K:W.Frag)(tl:TE):TI:=fun σ H R=>tl σ H fun x H1=>∃a,x= .ref a∧(∃xs,SqT K H1 a xs)∧R (Gw K a) H1
theorem AD{l:Expr}{tl:TE}(hl:PE X l tl):PI X tg l (E9 X.K tl):=by
 intro pins s σ H R I h
 refine bI (hl pins s σ H _ I h) fun v s1 ⟨x,H1,I1,r1,q1⟩=>?_
 obtain⟨a,e,⟨xs,hq⟩,q⟩:=q1
 subst e
 cases r1
 obtain⟨aA,rv,p,hz⟩:=I1.list hq
 refine wpAny_pyIter_list p.isList ?_
 refine⟨s1.heap.objs.size,[s1.heap.objs.size],_,_,H1,rfl,I1.kept (t':=s1.toks) fun b o e=>Heap.get?_push_of_some _ e,wG a _,⟨_,Heap.get?_push_size _ rfl,rfl,rfl⟩,fun b hb=>?_,q⟩
 have e:b=s1.heap.objs.size:=by simpa using hb
 subst e
 exact I1.fpOk (Nat.le_refl _) (I1.hok.fresh (Nat.le_refl _))
theorem Dp{l:Expr}{tl:TE}(hl:PE X l tl):PI X tg l (Hv X.K tl):=by
 intro pins s σ H R I h
 refine bI (hl pins s σ H _ I h) fun v s1 ⟨x,H1,I1,r1,q1⟩=>?_
 obtain⟨a,e,⟨xs,hq⟩,q⟩:=q1
 subst e
 cases r1
 obtain⟨aA,rv,p,hz⟩:=I1.tuple hq
 refine wpAny_pyIter_tuple (show s1.heap.IsTuple a aA.toArray from p) ?_
 refine⟨s1.heap.objs.size,[s1.heap.objs.size],_,_,H1,rfl,I1.kept (t':=s1.toks) fun b o e=>Heap.get?_push_of_some _ e,tY a _,⟨_,Heap.get?_push_size _ rfl,rfl,rfl⟩,fun b hb=>?_,q⟩
 have e:b=s1.heap.objs.size:=by simpa using hb
 subst e
 exact I1.fpOk (Nat.le_refl _) (I1.hok.fresh (Nat.le_refl _))
theorem rA{pins:List (Addr×Obj)}{σ:St}{H:Hp}{s:Shared}{R:It→Hp→Prop}{E:Value→Shared→Prop}{lo hi:Int}{t u v:Tok}{tk:Nat}(I:Inv X pins σ H s)(h1: -(2 ^ 62)≤lo)(h2:lo<2 ^ 62)(h3: -(2 ^ 62)≤hi)(h4:hi<2 ^ 62)
 (q:R (Ec lo (hi - lo).toNat) H):wpAny (model X.prog X.w) X.A (pyIter (.ref s.heap.objs.size)) (Im X pins σ tg R) E {s with heap:=s.heap.push {cls:= .type "range",data:= .fields #[.int lo t, .int hi u, .int 1 v]},toks:=tk}:=by
 refine wpAny_pyIter_range (IsRange.new ..) (small_one h1 h2 h3 h4) ?_
 have I1:Inv X pins σ H {s with heap:=s.heap.push {cls:= .type "range",data:= .fields #[.int lo t, .int hi u, .int 1 v]},toks:=tk}:=I.kept fun b o e=>Heap.get?_push_of_some _ e
 refine⟨(s.heap.push {cls:= .type "range",data:= .fields #[.int lo t, .int hi u, .int 1 v]}).objs.size,[(s.heap.push {cls:= .type "range",data:= .fields #[.int lo t, .int hi u, .int 1 v]}).objs.size],_,_,H,rfl,
  I1.kept (t':=tk) fun b o e=>Heap.get?_push_of_some _ e,tX _ lo (hi - lo).toNat,?_,fun b hb=>?_,q⟩
 ·have e1:lo+((0:Nat):Int)*1=lo:=by simp
  have e2:(((hi - lo).toNat:Nat):Int) - ((0:Nat):Int)=Builtin.Range.rangeSize lo hi 1:=by rw[rangeSize_one];split<;>omega
  show IsRangeIter _ _ (lo+((0:Nat):Int)*1) ((((hi - lo).toNat:Nat):Int) - ((0:Nat):Int)) 1
  rw[e1,e2]
  exact Heap.get?_push_size _ rfl
 ·have e:b=(s.heap.push {cls:= .type "range",data:= .fields #[.int lo t, .int hi u, .int 1 v]}).objs.size:=by simpa using hb
  subst e
  exact I1.fpOk (Nat.le_refl _) (I1.hok.fresh (Nat.le_refl _))
def E_(ta:TA):TI:=fun σ H R=>ta σ H fun vs H1=>∃j:Int,vs=[.int j]∧ -(2 ^ 62)≤j∧j<2 ^ 62∧R (Ec 0 j.toNat) H1
def Fb(ta:TA):TI:=fun σ H R=>ta σ H fun vs H1=>∃i j:Int,vs=[.int i, .int j]∧(-(2 ^ 62)≤i∧i<2 ^ 62∧ -(2 ^ 62)≤j∧j<2 ^ 62)∧R (Ec i (j - i).toNat) H1
theorem wk{a:Expr}{ta:TA}{p pos:Pos}(hg:Gl X "range")(hm:X.mg "range"=none)(ha:PA X [a] ta)(hs:starEach [a] X.env=[(false,eval a X.env)]:=by rfl):PI X tg (.Call (.Name "range" p) [a] [] pos) (E_ ta):=by
 intro pins s σ H R I h
 refine Call_ (fR I hg hm boot_range (PyProof.Rows.callWith_type1 (bI (ha pos pins s σ H _ I h) fun us s1 ⟨vs,H1,I1,r1,q1⟩=>?_) hs rfl))
 obtain⟨j,e,q1,q2,q⟩:=q1
 subst e
 cases r1 with
 |cons r rr=>
  cases rr
  obtain⟨t,rfl⟩:=r
  exact call_range_1 (rA I1 (by omega) (by omega) q1 q2 (by simpa using q))
theorem wm{a b:Expr}{ta:TA}{p pos:Pos}(hg:Gl X "range")(hm:X.mg "range"=none)(ha:PA X [a,b] ta)(hs:starEach [a,b] X.env=[(false,eval a X.env),(false,eval b X.env)]:=by rfl)(D3:starEach [b] X.env=[(false,eval b X.env)]:=by rfl):
 PI X tg (.Call (.Name "range" p) [a,b] [] pos) (Fb ta):=by
 intro pins s σ H R I h
 refine Call_ (fR I hg hm boot_range (PyProof.Rows.callWith_type1 (bI (ha pos pins s σ H _ I h) fun us s1 ⟨vs,H1,I1,r1,q1⟩=>?_) (by rw[hs,D3]) (by rw[D3];rfl)))
 obtain⟨i,j,e,⟨q1,q2,q3,q4⟩,q⟩:=q1
 subst e
 cases r1 with
 |cons r rr=>
  cases rr with
  |cons r' rr=>
   cases rr
   obtain⟨t,rfl⟩:=r
   obtain⟨t',rfl⟩:=r'
   exact call_range_2 (rA I1 q1 q2 q3 q4 q)
def H8(wi:TI)(g:TG)(tb:TS):TS:=fun D σ H=>wi σ H fun J H1=>∃W:Nat→Nat→St→Hp→Prop,(∃m,W 0 m σ H1)∧∀i m σ H,W i m σ H→
 (J.stop i H∧D.nx σ H)∨(J.go i H∧∃N:St→Hp→Prop,(∀σ' H',N σ' H'→∃m',m'<m∧W (i+1) m' σ' H')∧∀x H',J.yld i H x H'→g x σ H' fun σ2 H2=>tb {D with nx:=N,ct:=N,bk:=D.nx} σ2 H2)
def lU(fp:List Addr)(h:Heap):List (Addr×Obj):=fp.filterMap fun b=>(h.get? b).map fun o=>(b,o)
theorem eX{fp:List Addr}{h:Heap}{b:Addr}{o:Obj}(hb:b∈fp)(e:h.get? b=some o):(b,o)∈lU fp h:=List.mem_filterMap.mpr ⟨b,hb,by rw[e];rfl⟩
theorem v8{fp:List Addr}{h:Heap}{p:Addr×Obj}(hp:p∈lU fp h):p.1∈fp∧h.get? p.1=some p.2:=by
 obtain⟨b,hb,e⟩:=List.mem_filterMap.mp hp
 cases q:h.get? b with
 |none=>rw[q] at e;cases e
 |some o=>
  rw[q] at e
  have e':(b,o)=p:=Option.some.inj e
  subst e'
  exact⟨hb,q⟩
theorem Inv.pinned{pins:List (Addr×Obj)}{σ:St}{H:Hp}{s:Shared}{fp:List Addr}(I:Inv X pins σ H s)(hf:∀b∈fp,qc X pins H b)(ho:∀b∈fp,∃o,s.heap.get? b=some o∧∀v,o.data≠ .cell v):Inv X (pins++lU fp s.heap) σ H s:=
 I.pins_of fun p hp=>(List.mem_append.mp hp).elim (fun z=>I.pin p (List.mem_append_right _ z)) fun z=>by
  obtain⟨hb,e⟩:=v8 z
  obtain⟨f0,f1,f2,_⟩:=hf p.1 hb
  obtain⟨o,e',d⟩:=ho p.1 hb
  rw[e] at e';cases e'
  exact⟨e,f0,f1,f2,d⟩
theorem Inv.unpinned{pins pl:List (Addr×Obj)}{σ:St}{H:Hp}{s:Shared}(I:Inv X (pins++pl) σ H s):Inv X pins σ H s:=I.pins_of fun p hp=>I.pin p (List.mem_append_right _ (List.mem_append_left _ hp))
theorem Dq{iter:Expr}{body:List Stmt}{wi:TI}{g:TG}{tb:TS}{pos:Pos}(hp:PassesOwn (model X.prog X.w) X.A X.env X.xe)(hc:X.calm=true)(hi:PI X tg iter wi)(hg:PG X tg g)(hb:PSs X body tb)
 (hs:∀x,foldedSetIterable iter X.env x=pure x:=by intro _;rfl):PS X (.For tg iter body [] pos) (H8 wi g tb):=by
 intro pins s σ H D I h
 refine wpAny_For (bI (hi pins s σ H _ I h) fun v s1 h1=>bI h1 fun Ji s2 h2=>?_) hs
 obtain⟨it,fp,tn,J,H2,e,I2,T,FN,f2,W,⟨m0,w0⟩,turn⟩:=h2
 subst e
 have DL:∀{H':Hp},(∀b∈fp,H' b=none)→∀b∈fp,qc X pins H' b:=fun hn b hb=>⟨hn b hb,(f2 b hb).2⟩
 refine codeAny_forLoop_any (fun n s'=>∃i σ' H',Inv X pins σ' H' s'∧tn i s'.heap∧(∀b∈fp,H' b=none)∧W i n σ' H') ?_ m0 ⟨0,σ,H2,I2,FN,fun b hb=>(f2 b hb).1,w0⟩
 rintro n s3 ⟨i,σ3,H3,I3,D9,F8,w3⟩
 rcases turn i n σ3 H3 w3 with⟨stop,qn⟩ | ⟨go,N,hN,step⟩
 ·refine wpAny_passesOwn hp (bI (T.done X rfl rfl rfl hc i pins s3 σ3 H3 X.xe I3 (DL F8) D9 stop) fun r s4 ⟨hr,I4⟩=>?_)
  subst hr
  exact wpAny_execs_nil ⟨σ3,H3,I4,qn⟩
 ·refine wpAny_passesOwn hp (bI (T.item X rfl rfl rfl hc i pins s3 σ3 H3 X.xe I3 (DL F8) D9 go) fun r s4 ⟨u,hr,h4⟩=>?_)
  subst hr
  refine wpAny_passesOwn hp (bI h4 fun _ s5 ⟨x,H5,I5,r5,y5,HU,JL⟩=>?_)
  have I5':=I5.pinned (DL JL) (T.obj _ _ HU)
  refine wpAny_passesOwn hp (bI (hg _ s5 σ3 H5 x u _ I5' r5 (step x H5 y5)) fun _ s6 ⟨σ6,H6,I6,q6⟩=>?_)
  refine wpAny_passesOwn hp (bI (hb _ s6 σ6 H6 _ I6 q6) fun f s7 q7=>?_)
  have again:∀{σ7:St}{H7:Hp},Inv X (pins++lU fp s5.heap) σ7 H7 s7→N σ7 H7→∃m,m<n∧∃i σ' H',Inv X pins σ' H' s7∧tn i s7.heap∧(∀b∈fp,H' b=none)∧W i m σ' H':=fun {σ7 H7} I7 n7=>by
   obtain⟨m',hm,w7⟩:=hN σ7 H7 n7
   refine⟨m',hm,i+1,σ7,H7,I7.unpinned,T.keep _ _ _ HU fun b hb o e=>(I7.pin (b,o) (List.mem_append_right _ (List.mem_append_right _ (eX hb e)))).1,fun b hb=>?_,w7⟩
   obtain⟨o,e,d⟩:=T.obj _ _ HU b hb
   exact(I7.pin (b,o) (List.mem_append_right _ (List.mem_append_right _ (eX hb e)))).2.1
  cases f with
  |next=>obtain⟨σ7,H7,I7,n7⟩:=q7;exact again I7 n7
  |cont=>obtain⟨σ7,H7,I7,n7⟩:=q7;exact again I7 n7
  |brk=>obtain⟨σ7,H7,I7,q7⟩:=q7;exact⟨σ7,H7,I7.unpinned,q7⟩
  |ret v=>obtain⟨x7,σ7,H7,I7,r7,q7⟩:=q7;exact⟨x7,σ7,H7,I7.unpinned,r7,q7⟩
end
abbrev R2:=V→V→Hp→VK→Prop
def OpR(X:Cx)(f:Value→Value→Sem Value)(r:R2):Prop:=
 ∀(pins:List (Addr×Obj)) (s:Shared) (σ:St) (H:Hp) (x y:V) (v u:Value) (Q:VK),Inv X pins σ H s→RelV x v→RelV y u→r x y H Q→
  wpAny (model X.prog X.w) X.A (f v u) (EP X pins σ Q) X.xe s
def GA(X:Cx)(f:Value→Sem Value)(r:V→Hp→VK→Prop):Prop:=
 ∀(pins:List (Addr×Obj)) (s:Shared) (σ:St) (H:Hp) (x:V) (v:Value) (Q:VK),Inv X pins σ H s→RelV x v→r x H Q→
  wpAny (model X.prog X.w) X.A (f v) (EP X pins σ Q) X.xe s
def CallR(X:Cx)(f:Value)(r:List V→Hp→VK→Prop):Prop:=
 ∀(pins:List (Addr×Obj)) (s:Shared) (σ:St) (H:Hp) (xs:List V) (us:List Value) (Q:VK),Inv X pins σ H s→Vals xs us→r xs H Q→
  wpAny (model X.prog X.w) X.A (call f us) (EP X pins σ Q) X.xe s
def Gz(X:Cx)(r:V→Hp→(Bool→Hp→Prop)→Prop):Prop:=
 ∀(pins:List (Addr×Obj)) (s:Shared) (σ:St) (H:Hp) (x:V) (v:Value) (Q:Bool→Hp→Prop),Inv X pins σ H s→RelV x v→r x H Q→
  wpAny (model X.prog X.w) X.A (truthy v) (TP X pins σ Q) X.xe s
def FT(r:R2)(ta tb:TE):TE:=fun σ H Q=>ta σ H fun x H1=>tb σ H1 fun y H2=>r x y H2 Q
def K0(r:V→Hp→VK→Prop)(ta:TE):TE:=fun σ H Q=>ta σ H fun x H1=>r x H1 Q
def rI(C:Int→Int→Prop)(g:Int→Int→V):R2:=fun x y H Q=>∃i j,x= .int i∧y= .int j∧C i j∧Q (g i j) H
def u5(g:Int→Int→V):R2:=fun x y H Q=>∃i j,x= .int i∧y= .int j∧Q (g i j) H
def rU(g:Int→V):V→Hp→VK→Prop:=fun x H Q=>∃i,x= .int i∧Q (g i) H
section
variable{X:Cx}{a b c:Expr}{ta tb tc:TE}{pos:Pos}
theorem BO(ha:PE X a ta)(hb:PE X b tb){pins:List (Addr×Obj)}{s:Shared}{σ:St}{H:Hp}{R:V→V→Hp→Prop}(I:Inv X pins σ H s)
 (h:ta σ H fun x H1=>tb σ H1 fun y H2=>R x y H2){Q:Value→Shared→Prop}{f:Value→Value→Sem Value}
 (hf:∀v u s2 x y H2,Inv X pins σ H2 s2→RelV x v→RelV y u→R x y H2→wpAny (model X.prog X.w) X.A (f v u) Q X.xe s2):
 wpAny (model X.prog X.w) X.A (eval a X.env) (fun v s₁=>wpAny (model X.prog X.w) X.A (eval b X.env) (fun u s₂=>wpAny (model X.prog X.w) X.A (f v u) Q X.xe s₂) X.xe s₁) X.xe s:=by
 refine bI (ha pins s σ H _ I h) fun v s1 ⟨x,H1,I1,r1,q1⟩=>?_
 refine bI (hb pins s1 σ H1 _ I1 q1) fun u s2 ⟨y,H2,I2,r2,q2⟩=>?_
 exact hf v u s2 x y H2 I2 r1 r2 q2
theorem Fv{op:Operator}{r:R2}(ho:OpR X (binaryOp op) r)(ha:PE X a ta)(hb:PE X b tb):PE X (.BinOp a op b pos) (FT r ta tb):=by
 intro pins s σ H Q I h
 exact wpAny_BinOp (BO ha hb I h fun v u s2 x y H2 I2 rx ry q=>ho pins s2 σ H2 x y v u Q I2 rx ry q)
theorem Fw{op:UnaryOp}{r:V→Hp→VK→Prop}(ho:GA X (unaryOp op) r)(ha:PE X a ta):PE X (.UnaryOp op a pos) (K0 r ta):=by
 intro pins s σ H Q I h
 exact UnaryOp_ (bI (ha pins s σ H _ I h) fun v s1 ⟨x,H1,I1,r1,q1⟩=>ho pins s1 σ H1 x v Q I1 r1 q1)
theorem HF{f:Value→Value→Sem Value}{C:Int→Int→Prop}{g:Int→Int→Int}
 (rule:∀(i j:Int) (t u:Tok) (s:Shared) (Q:Value→Shared→Prop) (E:Value→Shared→Prop),C i j→Q (.int (g i j) s.toks) {s with toks:=s.toks+1}→wpAny (model X.prog X.w) X.A (f (.int i t) (.int j u)) Q E s):
 OpR X f (rI C fun i j=> .int (g i j)):=by
 intro pins s σ H x y v u Q I rx ry h
 obtain⟨i,j,rfl,rfl,hc,q⟩:=h
 obtain⟨t,rfl⟩:=rx
 obtain⟨t',rfl⟩:=ry
 exact rule i j t t' s _ _ hc ⟨.int (g i j),H,I.tok _,⟨_,rfl⟩,q⟩
theorem Fm{f:Value→Value→Sem Value}{g:Int→Int→Int}
 (rule:∀(i j:Int) (t u:Tok) (s:Shared) (Q:Value→Shared→Prop) (E:Value→Shared→Prop),Q (.int (g i j) s.toks) {s with toks:=s.toks+1}→wpAny (model X.prog X.w) X.A (f (.int i t) (.int j u)) Q E s):
 OpR X f (u5 fun i j=> .int (g i j)):=by
 intro pins s σ H x y v u Q I rx ry h
 obtain⟨i,j,rfl,rfl,q⟩:=h
 obtain⟨t,rfl⟩:=rx
 obtain⟨t',rfl⟩:=ry
 exact rule i j t t' s _ _ ⟨.int (g i j),H,I.tok _,⟨_,rfl⟩,q⟩
theorem CT{f:Value→Value→Sem Value}{g:Int→Int→Bool}
 (rule:∀(i j:Int) (t u:Tok) (s:Shared) (Q:Value→Shared→Prop) (E:Value→Shared→Prop),Q (.bool (g i j)) s→wpAny (model X.prog X.w) X.A (f (.int i t) (.int j u)) Q E s):
 OpR X f (u5 fun i j=> .bl (g i j)):=by
 intro pins s σ H x y v u Q I rx ry h
 obtain⟨i,j,rfl,rfl,q⟩:=h
 obtain⟨t,rfl⟩:=rx
 obtain⟨t',rfl⟩:=ry
 exact rule i j t t' s _ _ ⟨.bl (g i j),H,I,rfl,q⟩
def Ea(i j:Int):Prop:=0<j∧j<1073741824
def CMul(i j:Int):Prop:=(-(2 ^ 64)<i∧i<2 ^ 64)∨(-(2 ^ 64)<j∧j<2 ^ 64)
theorem CMul.ok{i j:Int}(h:CMul i j):IntMulOk i j:=by
 rcases h with⟨h1,h2⟩ | ⟨h1,h2⟩
 ·exact .of_left (intBits_le_64 h1 h2)
 ·exact .of_right (intBits_le_64 h1 h2)
theorem CU:OpR X (binaryOp .Add) (u5 fun i j=> .int (i+j)):=Fm fun _ _ _ _ _ _ _ q=>add_int q
theorem C0:OpR X (binaryOp .Sub) (u5 fun i j=> .int (i - j)):=Fm fun _ _ _ _ _ _ _ q=>sub_int q
theorem CY:OpR X (binaryOp .Mult) (rI CMul fun i j=> .int (i*j)):=HF fun _ _ _ _ _ _ _ hc q=>mul_int q hc.ok
theorem Ai:OpR X (binaryOp .FloorDiv) (rI Ea fun i j=> .int (i / j)):=HF fun i j _ _ _ _ _ hc q=>by
 have h1:(0:Int)<j:=hc.1
 have h2:j<1073741824:=hc.2
 exact floordiv_int (by omega) (by rw[Int.fdiv_eq_ediv_of_nonneg i (by omega)];exact q) (.inl (PyProof.noPylong_small (by omega)))
theorem CW:OpR X (binaryOp .Mod) (rI (fun _ j=>0<j) fun i j=> .int (i % j)):=HF fun i j _ _ _ _ _ hc q=>by
 have h1:(0:Int)<j:=hc
 exact mod_int' (by omega) (by rw[Int.fmod_eq_emod_of_nonneg i (by omega)];exact q)
theorem K3{f:Value→Sem Value}{g:Int→Int}
 (rule:∀(i:Int) (t:Tok) (s:Shared) (Q:Value→Shared→Prop) (E:Value→Shared→Prop),Q (.int (g i) s.toks) {s with toks:=s.toks+1}→wpAny (model X.prog X.w) X.A (f (.int i t)) Q E s):
 GA X f (rU fun i=> .int (g i)):=by
 intro pins s σ H x v Q I rx h
 obtain⟨i,rfl,q⟩:=h
 obtain⟨t,rfl⟩:=rx
 exact rule i t s _ _ ⟨.int (g i),H,I.tok _,⟨_,rfl⟩,q⟩
theorem DU:GA X (unaryOp .USub) (rU fun i=> .int (-i)):=K3 fun _ _ _ _ _ q=>neg_int q
end
section
variable{X:Cx}{a b c:Expr}{ta tb tc:TE}{pos:Pos}
theorem B2{pins:List (Addr×Obj)}{σ:St}{H:Hp}{s:Shared}{Q:VK}{k k':Bool}(I:Inv X pins σ H s)(q:Q (.bl k) H)(e:k=k'):EP X pins σ Q (.bool k') s:=by
 subst e
 exact⟨.bl k,H,I,rfl,q⟩
theorem BE:OpR X (compareOp .Lt) (u5 fun i j=> .bl (decide (i<j))):=CT fun _ _ _ _ _ _ _ q=>lt_int q
theorem nT:OpR X (compareOp .LtE) (u5 fun i j=> .bl (decide (i≤j))):=CT fun _ _ _ _ _ _ _ q=>le_int q
theorem Fo:OpR X (compareOp .Gt) (u5 fun i j=> .bl (decide (j<i))):=CT fun _ _ _ _ _ _ _ q=>gt_int q
theorem nS:OpR X (compareOp .In) (fun x y H Q=>∃i j,x= .str i∧y= .str j∧Q (.bl (!(Builtin.Str.occurrences j i 0 j.length 1).isEmpty)) H):=by
 intro pins s σ H x y v u Q I rx ry h
 obtain⟨i,j,rfl,rfl,q⟩:=h
 obtain⟨t,rfl⟩:=rx
 obtain⟨t',rfl⟩:=ry
 exact in_str (B2 I q rfl)
theorem OpR.or{f:Value→Value→Sem Value}{r r':R2}(h:OpR X f r)(h':OpR X f r'):OpR X f (fun x y H Q=>r x y H Q∨r' x y H Q):=by
 intro pins s σ H x y v u Q I rx ry q
 rcases q with q | q
 ·exact h pins s σ H x y v u Q I rx ry q
 ·exact h' pins s σ H x y v u Q I rx ry q
theorem yg(b:Expr){op:CmpOp}(h:op≠ .In:=by decide)(h2:op≠ .NotIn:=by decide):behindInMarks op b=false:=by
 have e1:(op==CmpOp.In)=false:=by cases op<;>first | rfl | exact absurd rfl h
 have e2:(op==CmpOp.NotIn)=false:=by cases op<;>first | rfl | exact absurd rfl h2
 cases b<;>simp[behindInMarks,e1,e2]
theorem Az{op:CmpOp}{r:R2}(ho:OpR X (compareOp op) r)(ha:PE X a ta)(hb:PE X b tb)(hm:behindInMarks op b=false):PE X (.Compare a [op] [b] pos) (FT r ta tb):=by
 intro pins s σ H Q I h
 exact wpAny_Compare1 (BO ha hb I h fun v u s2 x y H2 I2 rx ry q=>ho pins s2 σ H2 x y v u Q I2 rx ry q) hm
def BL(t:TE):TT:=fun σ H Q=>t σ H fun x H'=>∃k,x= .bl k∧Q k H'
theorem AL{op:CmpOp}{r:R2}(ho:OpR X (compareOp op) r)(ha:PE X a ta)(hb:PE X b tb)(hm:behindInMarks op b=false):PT X (.Compare a [op] [b] pos) (BL (FT r ta tb)):=by
 intro pins s σ H Q I h
 refine wpAny_isTrue_Compare1 (bI (ha pins s σ H _ I h) fun v s1 ⟨x,H1,I1,r1,q1⟩=>bI (hb pins s1 σ H1 _ I1 q1) fun u s2 ⟨y,H2,I2,r2,q2⟩=>
  bI (ho pins s2 σ H2 x y v u _ I2 r1 r2 q2) fun c s3 ⟨z,H3,I3,r3,k,e,q3⟩=>?_) hm
 subst e
 cases r3
 exact wpAny_truthy_bool ⟨H3,I3,q3⟩
def tU(r r':R2)(ta tb tc:TE):TE:=fun σ H Q=>ta σ H fun x H1=>tb σ H1 fun y H2=>r x y H2 fun z H3=>∃k,z= .bl k∧
 (if k=true then tc σ H3 fun w' H4=>r' y w' H4 Q else Q (.bl false) H3)
theorem yD{op tu:CmpOp}{r r':R2}(ho:OpR X (compareOp op) r)(nz:OpR X (compareOp tu) r')(ha:PE X a ta)(hb:PE X b tb)(hc:PE X c tc)
 (hm:lastMarks [op,tu] [b,c]=false:=by with_unfolding_all rfl):PE X (.Compare a [op,tu] [b,c] pos) (tU r r' ta tb tc):=by
 intro pins s σ H Q I h
 refine Compare_chain (bI (ha pins s σ H _ I h) fun v s1 ⟨x,H1,I1,r1,q1⟩=>chain_link (bI (hb pins s1 σ H1 _ I1 q1) fun u s2 ⟨y,H2,I2,r2,q2⟩=>
  bI (ho pins s2 σ H2 x y v u _ I2 r1 r2 q2) fun d s3 ⟨z,H3,I3,r3,k,e,q3⟩=>?_)) hm
 subst e
 cases r3
 refine wpAny_truthy_bool ?_
 cases k with
 |false=>exact ite_ff ⟨.bl false,H3,I3,rfl,q3⟩
 |true=>exact ite_tt (chain_last (bI (hc pins s3 σ H3 _ I3 q3) fun w' s4 ⟨z',H4,I4,r4,q4⟩=>nz pins s4 σ H4 y z' u w' Q I4 r2 r4 q4))
theorem yN{op tu:CmpOp}{r r':R2}(ho:OpR X (compareOp op) r)(nz:OpR X (compareOp tu) r')(ha:PE X a ta)(hb:PE X b tb)(hc:PE X c tc)
 (hm:lastMarks [op,tu] [b,c]=false:=by with_unfolding_all rfl):PT X (.Compare a [op,tu] [b,c] pos) (BL (tU r r' ta tb tc)):=by
 intro pins s σ H Q I h
 refine isTrue_chain (bI (ha pins s σ H _ I h) fun v s1 ⟨x,H1,I1,r1,q1⟩=>test_link (bI (hb pins s1 σ H1 _ I1 q1) fun u s2 ⟨y,H2,I2,r2,q2⟩=>
  bI (ho pins s2 σ H2 x y v u _ I2 r1 r2 q2) fun d s3 ⟨z,H3,I3,r3,k,e,q3⟩=>?_)) hm
 subst e
 cases r3
 refine wpAny_truthy_bool ?_
 cases k with
 |false=>
  obtain⟨k',e',q'⟩:=q3
  cases e'
  exact ite_ff ⟨H3,I3,q'⟩
 |true=>
  refine ite_tt (test_last (bI (hc pins s3 σ H3 _ I3 q3) fun w' s4 ⟨z',H4,I4,r4,q4⟩=>bI (nz pins s4 σ H4 y z' u w' _ I4 r2 r4 q4) fun d' s5 ⟨z2,H5,I5,r5,k2,e2,q5⟩=>?_))
  subst e2
  cases r5
  exact wpAny_truthy_bool ⟨H5,I5,q5⟩
def Eg(K:W.Frag)(x:V)(H:Hp)(k:Bool):Prop:=
 match x with
 | .non=>k=false
 | .bl b=>k=b
 | .int i=>k=(i !=0)
 | .str y=>y.length≤sizeLine∧k=((y.length:Int) !=0)
 | .byt y=>y.size≤sizeLine∧k=((y.size:Int) !=0)
 | .ref p=>(∃xs,SqL K H p xs∧k=!xs.isEmpty)∨(∃xs,SqT K H p xs∧k=!xs.isEmpty)∨∃ay,H p=some (.dK ay)∧k=!ay.isEmpty
 |_=>False
theorem sN{κ:Type}{ay:List (κ×V)}{vs:List (κ×Value)}(r:KV ay vs):(!vs.isEmpty)=!ay.isEmpty:=by
 cases r<;>rfl
theorem lr{xs:List V}{aA:List Value}(r:Vals xs aA):(!aA.toArray.isEmpty)=!xs.isEmpty:=by
 cases r<;>simp
theorem jf:(sizeLine:Nat)<2 ^ 63:=by rw[sizeLine_eq];decide
theorem DQ:Gz X (fun x H Q=>∃k,Eg X.K x H k∧Q k H):=by
 intro pins s σ H x v Q I rx h
 obtain⟨k,e,q⟩:=h
 have hl:=jf
 have hs:sizeLine=16777216:=sizeLine_eq
 cases x with
 |non=>
  cases rx
  have e':k=false:=e
  subst e'
  exact truthy_none ⟨H,I,q⟩
 |bl b=>
  cases rx
  have e':k=b:=e
  subst e'
  exact wpAny_truthy_bool ⟨H,I,q⟩
 |int i=>
  obtain⟨t,rfl⟩:=rx
  have e':k=(i !=0):=e
  subst e'
  exact PySem.P.truthy_int ⟨H,I,q⟩
 |str y=>
  obtain⟨t,rfl⟩:=rx
  obtain⟨hy,e'⟩:y.length≤sizeLine∧k=((y.length:Int) !=0):=e
  subst e'
  exact PySem.P.truthy_str (by omega) ⟨H,I.tok _,q⟩
 |byt y=>
  obtain⟨t,rfl⟩:=rx
  obtain⟨hy,e'⟩:y.size≤sizeLine∧k=((y.size:Int) !=0):=e
  subst e'
  exact PySem.W.truthy_bytes (by omega) ⟨H,I.tok _,q⟩
 |ref p=>
  cases rx
  have e':(∃xs,SqL X.K H p xs∧k=!xs.isEmpty)∨(∃xs,SqT X.K H p xs∧k=!xs.isEmpty)∨∃ay,H p=some (.dK ay)∧k=!ay.isEmpty:=e
  rcases e' with⟨xs,hx,e'⟩ | ⟨xs,hx,e'⟩ | ⟨ay,hx,e'⟩
  ·subst e'
   obtain⟨aA,r,pl,hz⟩:=I.list hx
   have hlen:=r.length
   exact wpAny_truthy_list pl.isList (by simp only[List.size_toArray];omega) ⟨H,I.tok _,by rw[lr r];exact q⟩
  ·subst e'
   obtain⟨aA,r,pl,hz⟩:=I.tuple hx
   have hlen:=r.length
   exact truthy_tuple pl (by simp only[List.size_toArray];omega) ⟨H,I.tok _,by rw[lr r];exact q⟩
  ·subst e'
   obtain⟨hz,hS,vs,r,m⟩:ay.length≤sizeLine∧(p==sysModules)=false∧∃vs,KV ay vs∧s.heap.DictOf (bA X.prog X.w) p vs:=I.hok p _ hx
   have hlen:ay.length=vs.length:=Paired.length r
   exact wpAny_truthy_dict hS m (by omega) ⟨H,I.tok _,by rw[sN r];exact q⟩
 |_=>exact(show False from e).elim
theorem yP(ha:PE X a ta)(he:∀whole,isTrue a X.env whole=(do let v←whole;standAt a.pos;holding [v] (truthy v))):
 PT X a (fun σ H Q=>ta σ H fun x H'=>∃k,Eg X.K x H' k∧Q k H'):=by
 intro pins s σ H Q I h
 exact isTrue_plain (bI (ha pins s σ H _ I h) fun v s1 ⟨x,H1,I1,r1,q1⟩=>DQ pins s1 σ H1 x v Q I1 r1 q1) (he _)
theorem vals1{x:V}{us:List Value}(r:Vals [x] us):∃u,us=[u]∧RelV x u:=by
 cases r with
 |cons r1 r2=>cases r2;exact⟨_,rfl,r1⟩
theorem vals2{x y:V}{us:List Value}(r:Vals [x,y] us):∃u w',us=[u,w']∧RelV x u∧RelV y w':=by
 cases r with
 |cons r1 r2=>
  cases r2 with
  |cons r3 r4=>cases r4;exact⟨_,_,rfl,r1,r3⟩
theorem xb:CallR X (.builtin "abs") (fun xs H Q=>∃i,xs=[.int i]∧Q (.int (if i<0 then -i else i)) H):=by
 intro pins s σ H xs us Q I r h
 obtain⟨i,rfl,q⟩:=h
 obtain⟨u,rfl,t,rfl⟩:=vals1 r
 exact call_abs_int fun u tk=>⟨.int (if i<0 then -i else i),H,I.tok _,⟨_,rfl⟩,q⟩
theorem vq(hc:X.calm=true):CallR X (.builtin "max") (fun xs H Q=>∃i j,xs=[.int i, .int j]∧Q (.int (if j>i then j else i)) H):=by
 intro pins s σ H xs us Q I r h
 obtain⟨i,j,rfl,q⟩:=h
 obtain⟨u,w',rfl,⟨t,rfl⟩,⟨t',rfl⟩⟩:=vals2 r
 refine max_two_ints (I.ok.hd hc) fun h' tk k=>⟨_,H,I.kept k,?_,q⟩
 by_cases hj:j>i
 ·rw[if_pos hj,if_pos hj];exact⟨_,rfl⟩
 ·rw[if_neg hj,if_neg hj];exact⟨_,rfl⟩
theorem vv(hc:X.calm=true):CallR X (.builtin "min") (fun xs H Q=>∃i j,xs=[.int i, .int j]∧Q (.int (if j<i then j else i)) H):=by
 intro pins s σ H xs us Q I r h
 obtain⟨i,j,rfl,q⟩:=h
 obtain⟨u,w',rfl,⟨t,rfl⟩,⟨t',rfl⟩⟩:=vals2 r
 refine min_two_ints (I.ok.hd hc) fun h' tk k=>⟨_,H,I.kept k,?_,q⟩
 by_cases hj:j<i
 ·rw[if_pos hj,if_pos hj];exact⟨_,rfl⟩
 ·rw[if_neg hj,if_neg hj];exact⟨_,rfl⟩
end
structure ObjM (h:Heap) (x dx C:Addr) (mA:Str→Option Value):Prop where
 obj:h.get? x=some (PySem.W.instObj C dx)
 ns:h.Ns1 dx mA
 ne:dx≠x
theorem vU{h:Heap}{dx:Addr}{mA:Str→Option Value}(n:h.Ns1 dx mA):∃od,h.get? dx=some od∧∀name,PySem.W.lookIn name od=some (mA name):=by
 obtain⟨o,es,ep,ho,hd,hk,_,hm⟩:=n
 refine⟨o,ho,fun name=>?_⟩
 have e:=hm name
 unfold nsFind findBy at e
 rw[←Array.find?_toList] at e
 unfold PySem.W.lookIn
 rw[hd]
 dsimp only
 split
 ·rename_i y q
  rw[q] at e
  exact congrArg some e
 ·rename_i q
  rw[q] at e
  have a:es.toList.any (·.refKey)=false:=by
   rw[List.any_eq_false]
   intro y hy
   obtain⟨z,t,Ca⟩:=hk y (Array.mem_toList_iff.mp hy)
   simp[DictEntry.refKey,Ca]
  have a':¬es.toList.any (·.refKey)=true:=by rw[a];exact Bool.false_ne_true
  rw[if_neg a']
  exact congrArg some e
theorem ObjM.look{h:Heap}{x dx C:Addr}{mA:Str→Option Value}(I:ObjM h x dx C mA):∃od,PySem.W.InstAt h x (PySem.W.instObj C dx) C (some od)∧∀name,PySem.W.lookIn name od=some (mA name):=
 let ⟨od,ho,hl⟩:=vU I.ns
 ⟨od,⟨I.obj,rfl,rfl,ho⟩,hl⟩
section
variable{prog:Program}{w:World}{A:Around}{E:Value→Shared→Prop}{s:Shared}{K:W.Frag}{x dx C f:Addr}{mA:Str→Option Value}{name:Str}{v:Value}
end
section
variable{P:Program}{w:World}{H H':Hp}{h h':Heap}{a C dx:Addr}{fs GJ:List (Str×V)}
theorem z3(hok:HOk P w H h)(e:H a=some (.ins C dx fs)):∃mA,ObjM h a dx C mA∧(∀f,RelO (fs.lookup f) (mA f))∧PySem.Within mA (fs.map (·.1))∧fs.length≤1000∧H dx=some (.own a):=by
 obtain⟨d,z,ne,ob,mA,n,r,q⟩:=(show ObjOk P w H h a (.ins C dx fs) from hok a _ e)
 exact⟨mA,⟨ob,n,ne⟩,r,q,z,d⟩
end
structure Cls (K:W.Frag) (C:Addr):Prop where
 pg:PySem.W.plainGet K C Str.empty=true
 hd:PySem.W.hasDictIn K C=true
 po:PySem.W.plainOver K C=true
 sa:PySem.W.findIn K (.ref C) "__setattr__"=some (some (.builtin "object.__setattr__"))
theorem Cls.get{K:W.Frag}{C:Addr}(c:Cls K C)(f:Str):PySem.W.plainGet K C f=true:=c.pg
structure Con (K:W.Frag) (C:Addr) (f:Str) (v:V) (u:Value):Prop where
 at_:PySem.W.findIn K (.ref C) f=some (some u)
 rel:RelV v u
 get:PySem.W.specialIn K u "__get__"=some none
 cp:PySem.W.copiedNames.contains f=false
structure Meth (K:W.Frag) (C:Addr) (m:Str) (f:Addr):Prop where
 at_:PySem.W.findIn K (.ref C) m=some (some (.ref f))
 fn:PySem.W.isFn K (.ref f)=true
 kp:PySem.W.keepIn K (.ref f)=true
section
variable{X:Cx}{pins:List (Addr×Obj)}{σ:St}{H:Hp}{s:Shared}{a C dx:Addr}{fs:List (Str×V)}{f:Str}{v:V}{A:Around}{E:Value→Shared→Prop}
end
section
variable{X:Cx}{o e value:Expr}{f:Str}{pos pos' Ig:Pos}{ta tv:TE}
end
section
variable{X:Cx}{pins:List (Addr×Obj)}{σ:St}{H:Hp}{s:Shared}{A:Around}{E:Value→Shared→Prop}{Q:Value→Shared→Prop}{c:Value}{b:Bool}
inductive TyOf (K:W.Frag) (H:Hp):V→Value→Prop where
 |non:TyOf K H .non (.type "NoneType")
 |bl (x:Bool):TyOf K H (.bl x) (.type "bool")
 |int (i:Int):TyOf K H (.int i) (.type "int")
 |str (x:Str):TyOf K H (.str x) (.type "str")
 |flt (x:UInt64):TyOf K H (.flt x) (.type "float")
 |lst {a:Addr}{xs:List V}(e:H a=some (.lst xs)):TyOf K H (.ref a) (.type "list")
 |frz {a:Addr}{o:Obj}{xs:List V}(e:H a=some (.frz o (.lst xs))):TyOf K H (.ref a) (.type "list")
 |tup {a:Addr}{xs:List V}(e:H a=some (.tup xs)):TyOf K H (.ref a) (.type "tuple")
 |dK {a:Addr}{ay:List (Key×V)}(e:H a=some (.dK ay)):TyOf K H (.ref a) (.type "dict")
 |dT {a:Addr}{ay:List (List Key×V)}(e:H a=some (.dT ay)):TyOf K H (.ref a) (.type "dict")
 |ins {a C dx:Addr}{fs:List (Str×V)}(e:H a=some (.ins C dx fs)) (cl:Cls K C) (ha:PySem.W.findIn K (.ref C) "__class__"=some (some (.builtin "object.__class__")))
   (hn:PySem.W.specialIn K (.builtin "object.__class__") "__get__"=some (some (.builtin "getset_descriptor.__get__"))) (Jb:PySem.W.takesIn K (.builtin "object.__class__")=some true)
   (hm:PySem.W.mroIn K C (.type "object")=some true):TyOf K H (.ref a) (.ref C)
theorem vK{x:V}{u t:Value}(I:Inv X pins σ H s)(rx:RelV x u)(ty:TyOf X.K H x t)(e:PySem.W.kitOne X.K t c=some b)(h:∀tk,Q (.bool b) {s with toks:=tk}):
 wpAny (model X.prog X.w) A (call (.builtin "isinstance") [u,c]) Q E s:=by
 cases ty with
 |non=>cases (show u=Value.none from rx);exact PySem.W.kia_one PySem.W.kitx_none I.kIn True.intro e (fun z=>nomatch z) h
 |bl y=>cases (show u=Value.bool y from rx);exact PySem.W.kia_one PySem.W.kitx_bool I.kIn True.intro e (fun z=>nomatch z) h
 |int i=>obtain⟨t,q⟩:=(show∃t,u=Value.int i t from rx);cases q;exact PySem.W.kia_one PySem.W.kitx_int I.kIn True.intro e (fun z=>nomatch z) h
 |str y=>obtain⟨t,q⟩:=(show∃t,u=Value.str y t from rx);cases q;exact PySem.W.kia_one PySem.W.kitx_str I.kIn True.intro e (fun z=>nomatch z) h
 |flt y=>obtain⟨t,q⟩:=(show∃t,u=Value.float y t from rx);cases q;exact PySem.W.kia_one PySem.W.kitx_float I.kIn True.intro e (fun z=>nomatch z) h
 | @lst a xs ea=>
   cases (show u=Value.ref a from rx)
   obtain⟨_,_,n,_,h1⟩:=(show ObjOk X.prog X.w H s.heap a (.lst xs) from I.hok a _ ea)
   exact PySem.W.kia_one PySem.W.kitx_list I.kIn ⟨_,h1,rfl⟩ e (fun z=>nomatch z) h
 | @frz a ob xs ea=>
   cases (show u=Value.ref a from rx)
   obtain⟨_,_,_,n,_,h1⟩:=(show ObjOk X.prog X.w H s.heap a (.frz ob (.lst xs)) from I.hok a _ ea)
   exact PySem.W.kia_one PySem.W.kitx_list I.kIn ⟨_,h1,rfl⟩ e (fun z=>nomatch z) h
 | @tup a xs ea=>
   cases (show u=Value.ref a from rx)
   obtain⟨_,_,_,p⟩:=(show ObjOk X.prog X.w H s.heap a (.tup xs) from I.hok a _ ea)
   obtain⟨o,h1,h2,_⟩:=p
   exact PySem.W.kia_one PySem.W.kitx_tuple I.kIn ⟨o,h1,h2⟩ e (fun z=>nomatch z) h
 | @dK a ay ea=>
   cases (show u=Value.ref a from rx)
   obtain⟨_,_,vs,_,p⟩:=(show ObjOk X.prog X.w H s.heap a (.dK ay) from I.hok a _ ea)
   obtain⟨o,es,ep,h1,h2,_⟩:=p
   exact PySem.W.kia_one PySem.W.kitx_dict I.kIn ⟨o,h1,h2.1⟩ e (fun z=>nomatch z) h
 | @dT a ay ea=>
   cases (show u=Value.ref a from rx)
   obtain⟨_,_,xs,_,o,es,ep,h1,h2,_⟩:=(show ObjOk X.prog X.w H s.heap a (.dT ay) from I.hok a _ ea)
   exact PySem.W.kia_one PySem.W.kitx_dict I.kIn ⟨o,h1,h2.1⟩ e (fun z=>nomatch z) h
 | @ins a C dx fs ea cl ha hn Jb hm=>
   cases (show u=Value.ref a from rx)
   obtain⟨mA,O,_⟩:=z3 I.hok ea
   obtain⟨od,J,_⟩:=O.look
   exact PySem.W.kia_one (PySem.W.kitx_own (cl.get _) cl.hd ha hn Jb hm) I.kIn J e (fun z=>nomatch z) h
end
structure Room (k:Nat) (A:Around):Prop where
 hd:A.handled=none
 dp:A.depth+3*k+5<recursionLimit
 un:A.units+16*k+200<cLine
theorem Room.mono{j k:Nat}{A:Around}(r:Room k A)(h:j≤k):Room j A:=⟨r.hd,by have:=r.dp;omega,by have:=r.un;omega⟩
theorem Room.deeper{k:Nat}{A:Around}(r:Room (k+1) A)(env:Env):Room k (A.deeper env):=
 ⟨r.hd,by have:=r.dp;show A.depth+1+3*k+5<_;omega,by have:=r.un;show A.units+3+16*k+200<_;omega⟩
theorem Room.depth{k:Nat}{A:Around}(r:Room k A):A.depth<recursionLimit:=by have:=r.dp;omega
theorem Room.units{k:Nat}{A:Around}(r:Room k A):A.units+64<cLine:=by have:=r.un;omega
def DN:TA:=fun _ H Q=>Q [] H
def zh(ta:TE)(tr:TA):TA:=fun σ H Q=>ta σ H fun x H1=>tr σ H1 fun xs H2=>Q (x::xs) H2
section
variable{X:Cx}{e:Expr}{es:List Expr}{te:TE}{t:TA}{pos:Pos}
theorem pA:PA X [] DN:=fun _ _ _ _ H Q I h=>Calls.spliced_nil ⟨[],H,I, .nil,h⟩
theorem pz(ha:PE X e te)(hr:PA X es t)(hs:starEach (e::es) X.env=(false,eval e X.env)::starEach es X.env:=by rfl):PA X (e::es) (zh te t):=by
 intro pos pins s σ H Q I h
 rw[hs]
 show wpAny _ _ (spliced ((false,eval e X.env)::backTo pos (starEach es X.env))) _ _ s
 refine Calls.spliced_cons (bI (ha pins s σ H _ I h) fun u s1 ⟨x,H1,I1,r1,q1⟩=>?_)
 exact bI (hr pos pins s1 σ H1 _ I1 q1) fun us s2 ⟨xs,H2,I2,r2,q2⟩=>⟨x::xs,H2,I2, .cons r1 r2,q2⟩
def Ie(t:TA):TE:=fun σ H Q=>t σ H fun xs H1=>xs.length≤sizeLine∧∀p,H1 p=none→Q (.ref p) (upd H1 p (.tup xs))
def H_(t:TA):TE:=fun σ H Q=>t σ H fun xs H1=>xs.length≤sizeLine∧∀p,H1 p=none→Q (.ref p) (upd H1 p (.lst xs))
theorem Dj{x1}(h:PA X es t):PE X (.Tuple es x1 pos) (Ie t):=by
 intro pins s σ H Q I hq
 refine wpAny_Tuple_spliced (bI (h pos pins s σ H _ I hq) fun us s1 ⟨xs,H1,I1,r,z,q⟩=>⟨by rw[←r.length];exact z,?_⟩)
 have hf:H1 s1.heap.objs.size=none:=I1.hok.fresh (Nat.le_refl _)
 refine⟨.ref s1.heap.objs.size,upd H1 s1.heap.objs.size (.tup xs),I1.laid (t':=s1.toks) (fun b u e=>Heap.get?_push_of_some _ e) (Nat.le_refl _) ?_,rfl,q _ hf⟩
 exact⟨z,us,r,⟨_,Heap.get?_push_size _ rfl,rfl,_,rfl⟩⟩
theorem yG(h:PA X es t):PE X (.List es pos) (H_ t):=by
 intro pins s σ H Q I hq
 refine wpAny_List_spliced (bI (h pos pins s σ H _ I hq) fun us s1 ⟨xs,H1,I1,r,z,q⟩=>⟨by rw[←r.length];exact z,?_⟩)
 have hf:H1 s1.heap.objs.size=none:=I1.hok.fresh (Nat.le_refl _)
 refine⟨.ref s1.heap.objs.size,upd H1 s1.heap.objs.size (.lst xs),I1.laid (t':=s1.toks) (fun b u e=>Heap.get?_push_of_some _ e) (Nat.le_refl _) ?_,rfl,q _ hf⟩
 exact⟨z,us,0,r,Heap.get?_push_size _ rfl⟩
end
abbrev Sp:=List V→Hp→VK→XK→Prop
abbrev sf:=List Env→Hp→Shared→XK→Value→Shared→Prop
structure Env0 (P:Program) (w:World) (K:W.Frag) (mg:Str→Option Value) (base:Heap) (A:Around) (outer:List Env) (s:Shared) (H:Hp):Prop where
 frames:A.frames=some outer
 mod:Mod K mg base
 bs:∀b o,base.get? b=some o→s.heap.get? b=some o∧H b=none
 bsz:base.objs.size≤s.heap.objs.size
 funs:s.heap.FunFrames base outer
 frf:∀b∈kE outer,H b=none
 hok:HOk P w H s.heap
 bare:AllBare s.gens
def CE(outer:List Env)(P:Program)(w:World)(H:Hp)(s:Shared)(Q:VK)(u:Value)(s':Shared):Prop:=
 ∃v H',s'.os=s.os∧AllBare s'.gens∧Un (kE outer) [] H H' s.heap s'.heap∧HOk P w H' s'.heap∧RelV v u∧Q v H'
def CR(CX:sf)(outer:List Env)(P:Program)(w:World)(H:Hp)(s:Shared)(Q:VK)(E:XK)(r:Result)(s':Shared):Prop:=
 match r with
 | .ok (.ret u)=>CE outer P w H s Q u s'
 | .ok _=>False
 | .error e=>CX outer H s E e s'
structure FnOk (P:Program) (w:World) (K:W.Frag) (mg:Str→Option Value) (base:Heap) (CX:sf) (k:Nat) (f:Addr) (fd:FuncData) (ps:List Str) (sp:Sp):Prop where
 len:∀vs H Q E,sp vs H Q E→vs.length=ps.length
 run:∀(A:Around) (outer:List Env) (s:Shared) (H:Hp) (args:Args) (us:List Value) (vs:List V) (Q:VK) (E:XK),Room k A→Env0 P w K mg base A outer s H→BindsTo s fd args (ps.zip us)→Vals vs us→sp vs H Q E→
  codeAny (model P w) A (.call (.ref f) args) (CR CX outer P w H s Q E) s
theorem FnOk.mono{P:Program}{w:World}{K:W.Frag}{mg:Str→Option Value}{base:Heap}{CX:sf}{j k:Nat}{f:Addr}{fd:FuncData}{ps:List Str}{sp:Sp}(F:FnOk P w K mg base CX j f fd ps sp)(h:j≤k):
 FnOk P w K mg base CX k f fd ps sp:=⟨F.len,fun A outer s H args us vs Q E hr=>F.run A outer s H args us vs Q E (hr.mono h)⟩
section
variable{X:Cx}{pins:List (Addr×Obj)}{σ:St}{H:Hp}{s s':Shared}
theorem Inv.env0(I:Inv X pins σ H s):Env0 X.prog X.w X.K X.mg X.base X.A X.stack s H:=
 ⟨I.ok.frames,I.ok.mod,I.bs,Nat.le_trans I.ok.bsz I.sz,I.stack,I.stkFree,I.hok,I.bare⟩
theorem Inv.after{Q:VK}{u:Value}(I:Inv X pins σ H s)(h:CE X.stack X.prog X.w H s Q u s'):EP X pins σ Q u s':=by
 obtain⟨v,H',os,bare,un,hok,r,q⟩:=h
 obtain⟨hh,g,d,t,HI⟩:=s'
 obtain rfl:HI=s.os:=os
 exact⟨v,H',I.call (h':=hh) (g':=g) (d':=d) (t':=t) (ch:=[]) un hok bare (fun b z=>absurd z (by simp)),r,q⟩
end
def FP(sp:Sp)(Bm:List V)(E:XK)(t:TA):TE:=fun σ H Q=>t σ H fun vs H1=>sp (vs++Bm) H1 Q E
def Binds(K:W.Frag)(fd:FuncData)(ps:List Str)(ds:List Value):Prop:=
 ∀(s:Shared) (us:List Value),K.In s.heap→(us++ds).length=ps.length→BindsTo s fd ⟨us,[]⟩ (ps.zip (us++ds))
theorem Binds.all{K:W.Frag}{fd:FuncData}{ps:List Str}(h:∀us:List Value,us.length=ps.length→bindArgs fd ⟨us,[]⟩=pure (ps.zip us)):Binds K fd ps []:=fun s us _ hl=>by
 rw[List.append_nil] at hl⊢
 exact .of_eq (h us hl)
def Passes(CX:sf)(X:Cx)(E:XK):Prop:=∀(pins:List (Addr×Obj)) (σ:St) (H:Hp) (s:Shared) (e:Value) (s':Shared),Inv X pins σ H s→CX X.stack H s E e s'→X.xe e s'
section
variable{X:Cx}{CX:sf}{k:Nat}{f C:Addr}{fd:FuncData}{ps:List Str}{sp:Sp}{Bm:List V}{ds:List Value}{E:XK}{x m:Str}{p pos apos:Pos}{e o:Expr}{es:List Expr}{ta:TE}{t:TA}
theorem DB{pins:List (Addr×Obj)}{σ:St}{H:Hp}{s:Shared}{Q:VK}{us:List Value}{vs:List V}(F:FnOk X.prog X.w X.K X.mg X.base CX k f fd ps sp)(hr:Room k X.A)(hb:Binds X.K fd ps ds)(hd:Vals Bm ds)(hx:Passes CX X E)
 (I:Inv X pins σ H s)(r:Vals vs us)(h:sp (vs++Bm) H Q E):wpAny (model X.prog X.w) X.A (call (.ref f) us) (EP X pins σ Q) X.xe s:=by
 have r2:Vals (vs++Bm) (us++ds):=r.append hd
 have hl:(us++ds).length=ps.length:=by rw[←r2.length];exact F.len _ _ _ _ h
 refine wpAny_call (codeAny_mono (F.run X.A X.stack s H ⟨us,[]⟩ (us++ds) (vs++Bm) Q E hr I.env0 (hb s us I.kIn hl) r2 h) fun r s' hq=>?_)
 cases r with
 |error e=>exact hx pins σ H s e s' I hq
 |ok fl=>
  cases fl with
  |ret u=>exact I.after hq
  |next=>exact False.elim hq
  |brk=>exact False.elim hq
  |cont=>exact False.elim hq
theorem Ay(F:FnOk X.prog X.w X.K X.mg X.base CX k f fd ps sp)(hr:Room k X.A)(hg:Gl X x)(hm:X.mg x=some (.ref f))(hk:PySem.W.keepIn X.K (.ref f)=true)(hb:Binds X.K fd ps ds)(hd:Vals Bm ds)(hx:Passes CX X E)
 (ha:PA X (e::es) t)(oR:(x==("__debug__":Str))=false:=by decide)(he:starEach (e::es) X.env=(false,eval e X.env)::starEach es X.env:=by rfl)(lh:(backTo pos (starEach es X.env)).any (·.1)=false:=by rfl):
 PE X (.Call (.Name x p) (e::es) [] pos) (FP sp Bm E t):=by
 intro pins s σ H Q I h
 refine wpAny_Call_Name_kw (uI I hg hm ?_ oR)
 refine PySem.W.callWith_K (h₀:=X.base) I.ok.mod.kin hk (bI (ha pos pins s σ H _ I h) fun us s1 ⟨vs,H1,I1,r,q⟩=>⟨I1.kIn,?_⟩) he lh
 exact DB F hr hb hd hx I1 r q
structure Mk (K:W.Frag) (C f:Addr):Prop where
 makes:PySem.W.makesIn K C=true
 init:PySem.W.findIn K (.ref C) "__init__"=some (some (.ref f))
 fn:PySem.W.isFn K (.ref f)=true
 kp:PySem.W.keepIn K (.ref C)=true
end
section
variable{X:Cx}{CX:sf}{k:Nat}{f C:Addr}{fd:FuncData}{ps ks:List Str}{sp:Sp}{E:XK}{x m:Str}{p pos apos KI:Pos}{e o:Expr}{es:List Expr}{Lj:List Keyword}{te ta:TE}{t tk:TA}{nm:Option Str}
structure KBinds (K:W.Frag) (fd:FuncData) (ps ks:List Str) (g:List Value→List Value→List Value) (gV:List V→List V→List V):Prop where
 to:∀(s:Shared) (us ws:List Value),K.In s.heap→(g us ws).length=ps.length→BindsTo s fd ⟨us,ks.zip ws⟩ (ps.zip (g us ws))
 rel:∀{vs:List V}{us:List Value}{zs:List V}{ws:List Value},Vals vs us→Vals zs ws→Vals (gV vs zs) (g us ws)
variable{g:List Value→List Value→List Value}{gV:List V→List V→List V}
end
structure FnScope (N P:List Str) (sc:Scope):Prop where
 kind:sc.kind= .function
 co:sc.isCoroutine=false
 gen:sc.isGenerator=false
 nd:N.Nodup
 pre:N.take P.length=P
 par:∀x∈P,sc.names.lookup x=some .local∨sc.names.lookup x=some .cell
 nofree:∀y∈sc.names,y.2≠ .free
theorem nh{kindOf:Str→Option NameKind}{x:Str}:∀{binds:List (Str×Value)}{m:Str→Option Value},(∀v,(x,v)∉binds)→bindL kindOf binds m x=m x
 |[],_,_=>rfl
 |(n,v)::r,m,h=>by
  unfold bindL
  rw[nh fun w hw=>h w (List.mem_cons_of_mem _ hw)]
  split
  ·have:x≠n:=by rintro rfl;exact h v List.mem_cons_self
   simp[this]
  ·rfl
theorem m_{kindOf:Str→Option NameKind}{x:Str}:∀{binds:List (Str×Value)}{m:Str→Option Value},(∀v,(x,v)∉binds)→bindC kindOf binds m x=m x
 |[],_,_=>rfl
 |(n,v)::r,m,h=>by
  unfold bindC
  rw[m_ fun w hw=>h w (List.mem_cons_of_mem _ hw)]
  split
  ·rfl
  ·have:x≠n:=by rintro rfl;exact h v List.mem_cons_self
   simp[this]
theorem ng{kindOf:Str→Option NameKind}{x:Str}{v:Value}:∀{P:List Str}{vs:List Value}{i:Nat}{m:Str→Option Value},P.Nodup→P[i]? =some x→vs[i]? =some v→kindOf x=some .local→
 bindL kindOf (P.zip vs) m x=some v
 |[],_,_,_,_,h,_,_=>by simp at h
 |_::_,[],_,_,_,_,h,_=>by simp at h
 |p::P,w::vs,0,m,nd,h1,h2,hk=>by
  simp at h1 h2;subst h1;subst h2
  show bindL kindOf ((p,w)::P.zip vs) m p=_
  unfold bindL
  rw[nh fun v hv=>(List.nodup_cons.mp nd).1 (List.of_mem_zip hv).1,if_pos hk]
  simp
 |p::P,w::vs,i+1,m,nd,h1,h2,hk=>by
  show bindL kindOf ((p,w)::P.zip vs) m x=_
  unfold bindL
  exact ng (i:=i) (List.nodup_cons.mp nd).2 (by simpa using h1) (by simpa using h2) hk
theorem m9{kindOf:Str→Option NameKind}{x:Str}{v:Value}:∀{P:List Str}{vs:List Value}{i:Nat}{m:Str→Option Value},P.Nodup→P[i]? =some x→vs[i]? =some v→kindOf x≠some .local→
 bindC kindOf (P.zip vs) m x=some v
 |[],_,_,_,_,h,_,_=>by simp at h
 |_::_,[],_,_,_,_,h,_=>by simp at h
 |p::P,w::vs,0,m,nd,h1,h2,hk=>by
  simp at h1 h2;subst h1;subst h2
  show bindC kindOf ((p,w)::P.zip vs) m p=_
  unfold bindC
  rw[m_ fun v hv=>(List.nodup_cons.mp nd).1 (List.of_mem_zip hv).1,if_neg hk]
  simp
 |p::P,w::vs,i+1,m,nd,h1,h2,hk=>by
  show bindC kindOf ((p,w)::P.zip vs) m x=_
  unfold bindC
  exact m9 (i:=i) (List.nodup_cons.mp nd).2 (by simpa using h1) (by simpa using h2) hk
def start(N:List Str)(vs:List V):St:=vs.map some++List.replicate (N.length - vs.length) none
def de(CX:sf)(P:Program)(w:World)(K:W.Frag)(mg:Str→Option Value)(base:Heap)(N:List Str)(qual:Str)(scope:Scope)(f:Addr)(cd:Value)(A:Around)(outer:List Env)(s:Shared)(H:Hp)(E:XK):Cx where
 prog:=P
 w:=w
 K:=K
 mg:=mg
 base:=base
 A:=A.deeper (envOfC qual scope s.heap.objs.size f cd)
 N:=N
 s₀:=s
 H₀:=H
 env:=envOfC qual scope s.heap.objs.size f cd
 outer:=outer
 stack:=envOfC qual scope s.heap.objs.size f cd::outer
 ex:=[]
 calm:=true
 fn:=fun _=>true
 pn:=[]
 xe:=fun e s'=>wpAny (model P w) (A.deeper (envOfC qual scope s.heap.objs.size f cd)) (leaving (envOfC qual scope s.heap.objs.size f cd) e) (fun _ FK=>CX outer H s E e FK) (fun e' FK=>CX outer H s E e' FK) s'
theorem qi{sc:Scope}{n:Nat}{x:Str}(h:sc.names.lookup x=some .cell):∃c,(cellsFrom n sc.names []).lookup x=some c:=by
 have q:=PySem.W.cellsFrom_some sc.names n [] (.inl h)
 exact Option.isSome_iff_exists.mp q
theorem vH{CX:sf}{P:Program}{w:World}{K:W.Frag}{mg:Str→Option Value}{base:Heap}{N ps:List Str}{qual:Str}{scope:Scope}{f:Addr}{cd:Value}{A:Around}{outer:List Env}{s s1:Shared}{H:Hp}{E:XK}{us:List Value}{vs:List V}
 (S:FnScope N ps scope)(hd:A.handled=none)(e0:Env0 P w K mg base A outer s H)(hl:vs.length=ps.length)(r:Vals vs us)
 (x:InCallC s s.heap.objs.size (bindL (envOfC qual scope s.heap.objs.size f cd).kindOf (ps.zip us) fun _=>none) (cellsFrom (s.heap.objs.size+1) scope.names []) (bindC (envOfC qual scope s.heap.objs.size f cd).kindOf (ps.zip us) fun _=>none) s1):
 Inv (de CX P w K mg base N qual scope f cd A outer s H E) [] (start N vs) H s1:=by
 have lh:ps.length≤N.length:=by have:=congrArg List.length S.pre;rw[List.length_take] at this;omega
 obtain⟨h1,tk,rfl,hk⟩:=x.done
 have Fg:∀b:Addr,b∉(de CX P w K mg base N qual scope f cd A outer s H E).ex:=fun b z=>absurd (show b∈([]:List Addr) from z) (by simp)
 refine⟨⟨e0.mod,S.kind,rfl,rfl,Nat.le_refl _,fun y z c h1 h2=>?_,fun y hy=>?_,fun y c _ h=>?_,fun _=>hd,Around.frames_deeper e0.frames, .inr ⟨rfl,rfl⟩,fun b z=>absurd z (Fg b),e0.bs,e0.bsz,fun b _ _=>Fg b,fun b z=>absurd z (Fg b),e0.funs,e0.frf⟩,
  rfl,e0.bare,Un.kept hk,⟨_,x.toInCall.ns,fun i y v h1 h2 h3=>?_⟩,fun y c h=>⟨_,x.cell y c h⟩,e0.hok.fresh (Nat.le_refl _),fun y c h=>?_,fun p hp=>absurd (show p∈([]:List (Addr×Obj)) from hp) (by simp),e0.hok.kept hk,?_⟩
 ·exact name_of_addr x.apart (PySem.mem_of_lookup h1) (PySem.mem_of_lookup h2)
 ·have hy:scope.names.lookup y=some .cell∨scope.names.lookup y=some .free:=hy
  rcases hy with hy | hy
  ·exact qi hy
  ·exact absurd rfl (S.nofree _ (PySem.mem_of_lookup hy))
 ·exact Nat.le_of_lt (x.above y c (PySem.mem_of_lookup h))
 ·have hi:i<vs.length:=by
   unfold start at h2
   by_cases hi:i<vs.length
   ·exact hi
   ·rw[List.getElem?_append_right (by simpa using hi)] at h2
    rw[List.getElem?_replicate] at h2
    split at h2<;>cases h2
  have ha:vs[i]? =some v:=by
   unfold start at h2
   rw[List.getElem?_append_left (by simpa using hi),List.getElem?_map] at h2
   cases e:vs[i]? with
   |none=>rw[e] at h2;cases h2
   |some a=>rw[e] at h2;cases h2;rfl
  obtain⟨u,hu,rv⟩:=r.get ha
  have hp:ps[i]? =some y:=by
   rw[←S.pre,List.getElem?_take_of_lt (by omega)];exact h1
  have Jj:ps.Nodup:=by rw[←S.pre];exact S.nd.sublist (List.take_sublist _ _)
  refine⟨u,rv,?_⟩
  rcases S.par y (List.mem_of_getElem? hp) with k | k
  ·exact .inl ⟨k,ng Jj hp hu k⟩
  ·obtain⟨c,e⟩:=qi (n:=s.heap.objs.size+1) k
   refine .inr ⟨.inl k,c,e,?_⟩
   have q:=x.cell y c e
   rw[m9 Jj hp hu (by show scope.names.lookup y≠_;rw[k];decide)] at q
   exact q
 ·exact e0.hok.fresh (Nat.le_of_lt (x.above y c (PySem.mem_of_lookup h)))
 ·unfold start
  show _=N.length
  rw[List.length_append,List.length_map,List.length_replicate]
  omega
theorem Ez{CX:sf}{P:Program}{w:World}{K:W.Frag}{mg:Str→Option Value}{base:Heap}{k:Nat}{f:Addr}{name qual:Str}{params:Arguments}{body:List Stmt}{scope:Scope}{dV kV doc pm bp ct oc:Value}{an od:Option Addr}
 {BF:Array (Option Value)}{N ps:List Str}{sp:Sp}(lk:K.lookup f=some ⟨oc,od, .func (PySem.W.fnOf name qual params body scope dV kV doc pm an bp ct),BF⟩)(wN:PySem.W.codeIn K bp qual=true)(S:FnScope N ps scope)
 (len:∀vs H Q E,sp vs H Q E→vs.length=ps.length)
 (qB:∀(A:Around) (outer:List Env) (s:Shared) (H:Hp) (vs:List V) (Q:VK) (E:XK),Room k (A.deeper (envOfC qual scope s.heap.objs.size f bp))→sp vs H Q E→
  ∃t,PSs (de CX P w K mg base N qual scope f bp A outer s H E) body t∧t {nx:=fun _ H'=>Q .non H',rt:=Q} (start N vs) H):
 FnOk P w K mg base CX (k+1) f (PySem.W.fnOf name qual params body scope dV kV doc pm an bp ct) ps sp:=by
 refine⟨len,fun A outer s H args us vs Q E hr e0 hb r Bw=>?_⟩
 have hl:=len _ _ _ _ Bw
 have KX:K.In s.heap:=e0.mod.kin.keeps fun b o e=>(e0.bs b o e).1
 have lim:s.heap.NoLimit:=e0.mod.nolimit.keeps fun b o e=>(e0.bs b o e).1
 have ES:∀y∈ps.zip us,scope.names.lookup y.1=some .local∨(scope.names.lookup y.1=some .cell∧((cellsFrom (s.heap.objs.size+1) scope.names []).lookup y.1).isSome=true):=fun⟨n,v⟩ hy=>by
  rcases S.par n (List.of_mem_zip hy).1 with q | q
  ·exact .inl q
  ·exact .inr ⟨q,PySem.W.cellsFrom_some _ _ _ (.inl q)⟩
 refine codeAny_call_function hr.depth (KX _ _ lk) rfl S.co S.gen rfl (PySem.W.codeRec_of KX wN) (hb _ _ _ _ ?_)
 refine wpAny_newFunctionEnv_cells S.kind ES fun env he s1 x=>?_
 subst he
 refine⟨lim.keeps x.toInCall.keep,codeAny_func ?_⟩
 obtain⟨t,ht,hq⟩:=qB A outer s H vs Q E (hr.deeper _) Bw
 have I:Inv (de CX P w K mg base N qual scope f bp A outer s H E) [] (start N vs) H s1:=vH S hr.hd e0 hl r x
 refine wpAny_mono (ht [] s1 (start N vs) H _ I hq) (fun fl s' hs=>?_) fun e s' hs=>hs
 have fin:∀{σ':St}{H':Hp}{v:V}{u:Value},Inv (de CX P w K mg base N qual scope f bp A outer s H E) [] σ' H' s'→RelV v u→Q v H'→CE outer P w H s Q u s':=
  fun {σ' H' v u} J rv q=>⟨v,H',J.os,J.bare,J.base,J.hok,rv,q⟩
 cases fl with
 |ret u=>
  obtain⟨v,σ',H',J,rv,q⟩:=hs
  exact fin J rv q
 |next=>
  obtain⟨σ',H',J,q⟩:=hs
  exact fin (v:=V.non) (u:=Value.none) J rfl q
 |brk=>
  obtain⟨_,_,_,q⟩:=hs
  exact False.elim q
 |cont=>
  obtain⟨_,_,_,q⟩:=hs
  exact False.elim q
section
variable{X:Cx}{x:Str}{p pos:Pos}{e:Expr}{es:List Expr}{t:TA}{id T:String}{r:List V→Hp→VK→Prop}
def HY(r:List V→Hp→VK→Prop)(t:TA):TE:=fun σ H Q=>t σ H fun vs H1=>r vs H1 Q
theorem yC(hc:CallR X (.builtin id) r)(hg:Gl X x)(hm:X.mg x=none)(hv:bootBuiltins x=some (.builtin id))(ha:PA X (e::es) t)(hn:x≠"__name__":=by decide)(oR:(x==("__debug__":Str))=false:=by decide)
 (he:starEach (e::es) X.env=(false,eval e X.env)::starEach es X.env:=by rfl)(lh:(backTo pos (starEach es X.env)).any (·.1)=false:=by rfl):PE X (.Call (.Name x p) (e::es) [] pos) (HY r t):=by
 intro pins s σ H Q I h
 refine wpAny_Call_Name_kw (fR I hg hm hv ?_ hn oR)
 exact PyProof.Rows.callWith_builtin1 (bI (ha pos pins s σ H _ I h) fun us s1 ⟨vs,H1,I1,r1,q1⟩=>hc pins s1 σ H1 vs us Q I1 r1 q1) he lh
theorem wj(hc:CallR X (.type T) r)(hg:Gl X x)(hm:X.mg x=none)(hv:bootBuiltins x=some (.type T))(ha:PA X (e::es) t)(hn:x≠"__name__":=by decide)(oR:(x==("__debug__":Str))=false:=by decide)
 (he:starEach (e::es) X.env=(false,eval e X.env)::starEach es X.env:=by rfl)(lh:(backTo pos (starEach es X.env)).any (·.1)=false:=by rfl):PE X (.Call (.Name x p) (e::es) [] pos) (HY r t):=by
 intro pins s σ H Q I h
 refine wpAny_Call_Name_kw (fR I hg hm hv ?_ hn oR)
 exact PyProof.Rows.callWith_type1 (bI (ha pos pins s σ H _ I h) fun us s1 ⟨vs,H1,I1,r1,q1⟩=>hc pins s1 σ H1 vs us Q I1 r1 q1) he lh
end
end L2
namespace HT
open PySem PyProof.Rows
section
open PySem.SeqAt
open PySem.AutoSeq1 (wpAny_loadPart')
open PySem.MeetsSeq PySem.MeetsSeq2 PySem.MeetsSeq3
end
section
variable{prog:Program}{w:World}{A:Around}{E:Value→Shared→Prop}{s:Shared}
theorem cat_tup{t b:Addr}{vs ws:List Value}{Q:Value→Shared→Prop}(ht:IsTup s.heap t vs.toArray)(hb:IsTup s.heap b ws.toArray)(hv:vs≠[])
 (h1:ws=[]→Q (.ref t) s)(h2:ws≠[]→Q (.ref s.heap.objs.size) {s with heap:=s.heap.push {cls:= .type "tuple",data:= .seq (vs++ws).toArray} })
 (hsz:vs.length+ws.length≤sizeLine):wpAny (model prog w) A (binaryOp .Add (.ref t) (.ref b)) Q E s:=by
 obtain⟨⟨cls,dd,data,sl⟩,ho,hc,n,hd⟩:=id ht
 obtain⟨⟨GG,F4,data2,Gp⟩,Ck,B7,n2,hd2⟩:=id hb
 simp only at hc hd B7 hd2
 subst hc hd B7 hd2
 have e:vs.toArray++ws.toArray=(vs++ws).toArray:=by simp
 by_cases hw:ws=[]
 ·exact concat_meets ⟨_,ho,rfl⟩ ⟨_,Ck,rfl⟩ noFill_tuple_add seq_tuple_add PySem.F.slot_tuple_add PySem.F.entry_tuple_add (PySem.F.args_tuple_add_2 _ _)
   (tuple_addW1 t b vs.toArray ws.toArray n n2 dd F4 sl Gp (by simpa using hv) (by simp[hw])) ⟨ho,Ck,h1 hw⟩
 ·refine concat_meets ⟨_,ho,rfl⟩ ⟨_,Ck,rfl⟩ noFill_tuple_add seq_tuple_add PySem.F.slot_tuple_add PySem.F.entry_tuple_add (PySem.F.args_tuple_add_2 _ _)
   (tuple_addW2 t b vs.toArray ws.toArray n n2 dd F4 sl Gp (by simpa using hv) (by simpa using hw) (by rw[List.size_toArray,List.size_toArray];exact hsz)) ⟨ho,Ck,?_⟩
  rw[e]
  exact h2 hw
def sIx(n d:Nat):Option Int→Nat
 |none=>d
 |some v=>if v<0 then(v+(n:Int)).toNat else min v.toNat n
theorem sIx_nat(n d k:Nat):sIx n d (some (k:Int))=min k n:=by
 show (if (k:Int)<0 then((k:Int)+(n:Int)).toNat else min (k:Int).toNat n)=min k n
 rw[if_neg (by omega),Int.toNat_natCast]
theorem sIx_le(n d:Nat)(hd:d≤n)(o:Option Int):sIx n d o≤n:=by
 cases o with
 |none=>exact hd
 |some v=>
  show (if v<0 then(v+(n:Int)).toNat else min v.toNat n)≤n
  by_cases hv:v<0
  ·rw[if_pos hv];omega
  ·rw[if_neg hv];exact Nat.min_le_right _ _
theorem clip_eq(v:Int)(n d:Nat):(if v<0 then max (v+(n:Int)) 0 else min v (n:Int))=((sIx n d (some v):Nat):Int):=by
 show (if v<0 then max (v+(n:Int)) 0 else min v (n:Int))=(((if v<0 then(v+(n:Int)).toNat else min v.toNat n):Nat):Int)
 by_cases hv:v<0
 ·simp only[if_pos hv];omega
 ·simp only[if_neg hv];omega
theorem adjust_gen(lo hi:Option Int)(n:Nat):Builtin.Slice.sliceAdjust lo hi 1 (n:Int)=(((sIx n 0 lo:Nat):Int),((sIx n n hi:Nat):Int)):=by
 have h1:¬((1:Int)<0):=by omega
 unfold Builtin.Slice.sliceAdjust
 simp only[h1,if_false]
 refine Prod.ext ?_ ?_
 ·cases lo with
  |none=>rfl
  |some v=>exact clip_eq v n 0
 ·cases hi with
  |none=>rfl
  |some v=>exact clip_eq v n n
theorem places_gen(i j:Nat):Builtin.Slice.slicePlaces (i:Int) (j:Int) 1=j - i:=by
 unfold Builtin.Slice.slicePlaces
 have h1:(1:Int)>0:=by omega
 simp only[h1,if_true,Int.ediv_one]
 split<;>omega
theorem slicePart_{v:Value}{o:Option Int}{Q:Option Int→Shared→Prop}(p:IsPart v o)(h:Q o s):wpAny (model prog w) A (Builtin.Slice.slicePartIndex v) Q E s:=by
 cases p with
 |none=>exact slicePart_none h
 |int i t=>exact slicePart_int h
theorem sliceApplied_gen{sl:Addr}{vl vu:Value}{lo hi:Option Int}{n:Nat}{Q:Int×Int×Nat→Shared→Prop}(hs:s.heap.IsSliceOf sl vl vu .none)(pl:IsPart vl lo)(pu:IsPart vu hi)
 (h:Q (((sIx n 0 lo:Nat):Int),1,sIx n n hi - sIx n 0 lo) s):wpAny (model prog w) A (Builtin.Slice.sliceApplied (.ref sl) (pure (n:Int))) Q E s:=by
 obtain⟨os,qE,B8,vF⟩:=id hs
 unfold Builtin.Slice.sliceApplied Builtin.Slice.sliceFields
 refine wpAny_bind (wpAny_bind (wpAny_field qE vF (x:=vl) rfl (wpAny_bind (wpAny_field qE vF (x:=vu) rfl (wpAny_bind (wpAny_field qE vF (x:= .none) rfl (wpAny_pure ?_)))))))
 refine wpAny_bind (slicePart_none ?_)
 show wpAny _ _ (if ((1:Int)==0)=true then _ else _) _ _ s
 rw[if_neg (by decide)]
 refine wpAny_bind (slicePart_ pl (wpAny_bind (slicePart_ pu (wpAny_bind (wpAny_pure ?_)))))
 show wpAny _ _ (match Builtin.Slice.sliceAdjust lo hi 1 (n:Int) with | (lo,hi)=>pure (lo,(1:Int),Builtin.Slice.slicePlaces lo hi 1)) _ _ s
 rw[adjust_gen lo hi n]
 show wpAny _ _ (pure (((sIx n 0 lo:Nat):Int),(1:Int),Builtin.Slice.slicePlaces ((sIx n 0 lo:Nat):Int) ((sIx n n hi:Nat):Int) 1)) _ _ s
 rw[places_gen]
 exact wpAny_pure h
theorem pick_gen(xs:Array Value)(i k:Nat):((List.range k).filterMap fun(m:Nat)=>xs[((i:Int)+(m:Int)*1).toNat]?).toArray=((xs.toList.drop i).take k).toArray:=by
 have e:(fun (m:Nat)=>xs[((i:Int)+(m:Int)*1).toNat]?)=fun m=>xs[i+m]? :=by
  funext m
  have:((i:Int)+(m:Int)*1).toNat=i+m:=by omega
  rw[this]
 rw[e]
 have:=pick_run xs i k
 rw[List.filterMap_map] at this
 have e2:((fun x=>xs[x]?)∘fun x=>i+x)=fun m=>xs[i+m]? :=rfl
 rw[e2] at this
 rw[this]
theorem getItem_tuple_cut{t sl:Addr}{items:Array Value}{vl vu:Value}{lo hi:Option Int}{Q:Value→Shared→Prop}(ht:IsTup s.heap t items)(hs:s.heap.IsSliceOf sl vl vu .none)(pl:IsPart vl lo)(pu:IsPart vu hi)
 (hw:¬(sIx items.size 0 lo=0∧sIx items.size items.size hi=items.size))
 (h:Q (.ref s.heap.objs.size) {s with heap:=s.heap.push {cls:= .type "tuple",data:= .seq ((items.toList.drop (sIx items.size 0 lo)).take (sIx items.size items.size hi - sIx items.size 0 lo)).toArray} })
 (hsz:items.size≤sizeLine):wpAny (model prog w) A (getItem (.ref t) (.ref sl)) Q E s:=by
 have uy:sizeOk (.seq ((items.toList.drop (sIx items.size 0 lo)).take (sIx items.size items.size hi - sIx items.size 0 lo)).toArray):=by
  show ((items.toList.drop (sIx items.size 0 lo)).take (sIx items.size items.size hi - sIx items.size 0 lo)).toArray.size≤sizeLine
  rw[List.size_toArray,List.length_take,List.length_drop,Array.length_toList]
  omega
 have hj:sIx items.size items.size hi≤items.size:=sIx_le _ _ (Nat.le_refl _) hi
 obtain⟨os,qE,B8,vF⟩:=id hs
 have EE:s.TypeIs (.ref sl) "slice":=⟨os,qE,B8⟩
 unfold getItem
 try with_reducible refine wpAny_holding ?_
 first | refine wpAny_bind (wpAny_pure ?_) | skip
 refine wpAny_bind (wpAny_sequenceKey ht.typeIs (by decide) ?_)
 refine wpAny_bind (wpAny_callSpecial?_slot (name:=Str.ofString "__getitem__") ht.typeIs PyProof.Rows.slot_tuple_getitem
  (wpAny_call_entry PyProof.Rows.slot_tuple_getitem ht.typeIs entry_tuple_getitem ?_ (args_tuple_getitem _ _)))
 show wpAny _ _ (Builtin.Tuple.tupleItemsOf (.ref t)>>=_) _ _ s
 refine wpAny_bind (tupleItemsOf_ ht ?_)
 refine wpAny_bind (wpAny_typeOf EE ?_)
 rw[if_pos (by decide)]
 refine wpAny_bind (sliceApplied_gen hs pl pu ?_)
 have qD:¬((((sIx items.size 0 lo:Nat):Int)==0&&(1:Int)==1&&(sIx items.size items.size hi - sIx items.size 0 lo)==items.size)=true):=by
  intro q
  rw[Bool.and_eq_true,Bool.and_eq_true] at q
  have q1:((sIx items.size 0 lo:Nat):Int)=0:=eq_of_beq q.1.1
  have q2:sIx items.size items.size hi - sIx items.size 0 lo=items.size:=eq_of_beq q.2
  exact hw ⟨by omega,by omega⟩
 show wpAny _ _ (if (((sIx items.size 0 lo:Nat):Int)==0&&(1:Int)==1&&(sIx items.size items.size hi - sIx items.size 0 lo)==items.size)=true then _ else _) _ _ s
 rw[if_neg qD,pick_gen]
 first
  |exact wpAny_bind (m:=Builtin.Tuple.tupleExact _) (wpAny_newObj_type (wpAny_pure ⟨_,rfl,wpAny_pure h⟩) uy)
  |exact wpAny_bind (m:=Builtin.Tuple.tupleExact _) (wpAny_newObj_type (wpAny_bind (wpAny_pure (wpAny_pure ⟨_,rfl,wpAny_pure h⟩))) uy)
  |exact wpAny_bind (wpAny_bind (m:=Builtin.Tuple.tupleExact _) (wpAny_newObj_type (wpAny_pure (wpAny_pure ⟨_,rfl,wpAny_pure h⟩)) uy))
  |exact wpAny_bind (wpAny_bind (m:=Builtin.Tuple.tupleExact _) (wpAny_newObj_type (wpAny_pure ⟨_,rfl,wpAny_pure h⟩) uy))
end
end HT
namespace L2
open PySem PySem.Spec PyProof.Rows
abbrev TO:=St→Hp→(Option Int→Hp→Prop)→Prop
def PO(X:Cx)(e:Option Expr)(t:TO):Prop:=
 ∀(pins:List (Addr×Obj)) (s:Shared) (σ:St) (H:Hp) (Q:Option Int→Hp→Prop),Inv X pins σ H s→t σ H Q→
  wpAny (model X.prog X.w) X.A (evalPart e X.env) (fun u s'=>∃o H',Inv X pins σ H' s'∧IsPart u o∧Q o H') X.xe s
def A4:TO:=fun _ H Q=>Q none H
def FU(t:TE):TO:=fun σ H Q=>t σ H fun x H1=>∃i,x= .int i∧Q (some i) H1
theorem intsAre_of{ns:List Int}:∀{us:List Value},Vals (ns.map V.int) us→IntsAre us ns:=by
 induction ns with
 |nil=>intro us r;rw[List.map_nil] at r;cases r;exact .nil
 |cons n ns ih=>
  intro us r
  rw[List.map_cons] at r
  cases r with
  |cons r1 r2=>
   obtain⟨t,e⟩:=r1
   subst e
   exact .cons n t (ih r2)
section
variable{X:Cx}{e:Expr}{te:TE}{lo hi:Option Expr}{tl th:TO}{pos p2:Pos}
theorem AE:PO X none A4:=by
 intro pins s σ H Q I h
 rw[evalPart_none]
 exact wpAny_pure ⟨none,H,I, .none,h⟩
theorem AF(h:PE X e te):PO X (some e) (FU te):=by
 intro pins s σ H Q I hw
 rw[evalPart_some]
 refine bI (h pins s σ H _ I hw) fun u s1 ⟨x,H1,I1,r1,q1⟩=>?_
 obtain⟨i,rfl,q⟩:=q1
 obtain⟨t,rfl⟩:=r1
 exact⟨some i,H1,I1, .int i t,q⟩
def SlR(X:Cx)(r:V→Option Int→Option Int→Hp→VK→Prop):Prop:=
 ∀(pins:List (Addr×Obj)) (s:Shared) (σ:St) (H:Hp) (x:V) (v vl vu:Value) (lo hi:Option Int) (sl:Addr) (Q:VK),Inv X pins σ H s→RelV x v→s.heap.IsSliceOf sl vl vu .none→IsPart vl lo→IsPart vu hi→r x lo hi H Q→
  ∃T id,typeLookup (.type T) "__getitem__"=pure (some (.builtin id))∧s.TypeIs v T∧wpAny (model X.prog X.w) X.A (getItem v (.ref sl)) (EP X pins σ Q) X.xe s
theorem SlR.or{r r':V→Option Int→Option Int→Hp→VK→Prop}(h:SlR X r)(h':SlR X r'):SlR X (fun x lo hi H Q=>r x lo hi H Q∨r' x lo hi H Q):=by
 intro pins s σ H x v vl vu lo hi sl Q I rx hs pl pu q
 rcases q with q | q
 ·exact h pins s σ H x v vl vu lo hi sl Q I rx hs pl pu q
 ·exact h' pins s σ H x v vl vu lo hi sl Q I rx hs pl pu q
def KY(r:V→Option Int→Option Int→Hp→VK→Prop)(te:TE)(tl th:TO):TE:=fun σ H Q=>te σ H fun x H1=>tl σ H1 fun l H2=>th σ H2 fun u H3=>r x l u H3 Q
theorem yH{r:V→Option Int→Option Int→Hp→VK→Prop}(hr:SlR X r)(he:PE X e te)(hl:PO X lo tl)(hu:PO X hi th):PE X (.Subscript e (.Slice lo hi none p2) pos) (KY r te tl th):=by
 intro pins s σ H Q I h
 refine Subscript_ (bI (he pins s σ H _ I h) fun v s1 ⟨x,H1,I1,r1,q1⟩=>?_)
 refine wpAny_Slice (bI (hl pins s1 σ H1 _ I1 q1) fun vl s2 ⟨l,H2,I2,pl,q2⟩=>bI (hu pins s2 σ H2 _ I2 q2) fun vu s3 ⟨u,H3,I3,pu,q3⟩=>?_)
 rw[evalPart_none]
 refine wpAny_pure ?_
 have I4:Inv X pins σ H3 {s3 with heap:=s3.heap.push {cls:= .type "slice",data:= .fields #[vl,vu, .none]} }:=I3.kept (t':=s3.toks) fun b ob q=>Heap.get?_push_of_some _ q
 obtain⟨T,id,hT,ht,hg⟩:=hr pins {s3 with heap:=s3.heap.push {cls:= .type "slice",data:= .fields #[vl,vu, .none]} } σ H3 x v vl vu l u s3.heap.objs.size Q I4 r1 (Heap.IsSliceOf.new ..) pl pu q3
 show wpAny (model X.prog X.w) X.A (subscriptTail e (.Slice lo hi none p2) v (.ref s3.heap.objs.size)) (EP X pins σ Q) X.xe {s3 with heap:=s3.heap.push {cls:= .type "slice",data:= .fields #[vl,vu, .none]} }
 exact tail_any (ops:=[.ref s3.heap.objs.size,v]) ht hT hg (by with_unfolding_all rfl)
def qq(xs:List V)(lo hi:Option Int):List V:=(xs.drop (HT.sIx xs.length 0 lo)).take (HT.sIx xs.length xs.length hi - HT.sIx xs.length 0 lo)
theorem jJ(xs:List V)(lo hi:Option Int):(qq xs lo hi).length≤xs.length:=by
 unfold qq
 rw[List.length_take,List.length_drop]
 omega
def HR(K:W.Frag):V→Option Int→Option Int→Hp→VK→Prop:=fun x lo hi H Q=>∃a xs,x= .ref a∧SqT K H a xs∧
 ¬(HT.sIx xs.length 0 lo=0∧HT.sIx xs.length xs.length hi=xs.length)∧∀p,H p=none→Q (.ref p) (upd H p (.tup (qq xs lo hi)))
theorem DK:SlR X (HR X.K):=by
 intro pins s σ H x v vl vu lo hi sl Q I rx hs pl pu h
 obtain⟨a,xs,rfl,hx,hw,q⟩:=h
 cases rx
 obtain⟨aA,r,ht,hz⟩:=I.tuple hx
 have hlen:aA.toArray.size=xs.length:=by rw[List.size_toArray];exact r.length.symm
 refine⟨"tuple",_,PyProof.Rows.slot_tuple_getitem.lookup,ht.typeIs,?_⟩
 refine HT.getItem_tuple_cut ht hs pl pu (by rw[hlen];exact hw) ?_ (by rw[hlen];exact hz)
 rw[hlen]
 refine⟨.ref s.heap.objs.size,_,I.laid (t':=s.toks) (o:= .tup (qq xs lo hi)) (fun b ob q=>Heap.get?_push_of_some _ q) (Nat.le_refl _) ?_,rfl,q _ (I.hok.fresh (Nat.le_refl _))⟩
 exact⟨Nat.le_trans (jJ xs lo hi) hz,_,(r.drop (HT.sIx xs.length 0 lo)).take (HT.sIx xs.length xs.length hi - HT.sIx xs.length 0 lo),IsTup.new _ _⟩
def FC(K:W.Frag):R2:=fun x y H Q=>∃a b xs ys,x= .ref a∧y= .ref b∧SqT K H a xs∧SqT K H b ys∧xs≠[]∧xs.length+ys.length≤sizeLine∧
 (ys=[]→Q (.ref a) H)∧(ys≠[]→∀p,H p=none→Q (.ref p) (upd H p (.tup (xs++ys))))
theorem Vals.nil_iff{xs:List V}{us:List Value}(r:Vals xs us):us=[]↔xs=[]:=by
 cases r with
 |nil=>simp
 |cons _ _=>simp
theorem Ah:OpR X (binaryOp .Add) (FC X.K):=by
 intro pins s σ H x y v u Q I rx ry h
 obtain⟨a,b,xs,ys,rfl,rfl,ha,hb,hx,hz,q1,q2⟩:=h
 cases rx
 cases ry
 obtain⟨aA,r1,p1,_⟩:=I.tuple ha
 obtain⟨eD,r2,p2,_⟩:=I.tuple hb
 refine HT.cat_tup p1 p2 (fun z=>hx (r1.nil_iff.mp z)) (fun z=>⟨.ref a,H,I,rfl,q1 (r2.nil_iff.mp z)⟩) (fun z=>?_) (by rw[←r1.length,←r2.length];exact hz)
 refine⟨.ref s.heap.objs.size,_,I.laid (t':=s.toks) (o:= .tup (xs++ys)) (fun b ob q=>Heap.get?_push_of_some _ q) (Nat.le_refl _) ?_,rfl,q2 (fun w=>z (r2.nil_iff.mpr w)) _ (I.hok.fresh (Nat.le_refl _))⟩
 exact⟨by rw[List.length_append];exact hz,_,r1.append r2,IsTup.new _ _⟩
end
def Cz(n:Nat)(i:Int):Option Nat:=if 0≤i then(if i<n then some i.toNat else none) else if -(n:Int)≤i then some (i+n).toNat else none
def atI{α:Type}(xs:List α)(i:Int):Option α:=(Cz xs.length i).bind fun j=>xs[j]?
theorem z7{n:Nat}{i:Int}{j:Nat}(h:Cz n i=some j):seqIndex? i n=some j∧j<n∧ -(n:Int)≤i∧i<n:=by
 unfold Cz at h
 by_cases h0:0≤i
 ·rw[if_pos h0] at h
  by_cases h1:i<n
  ·rw[if_pos h1] at h
   have e:i.toNat=j:=Option.some.inj h
   exact⟨by rw[seqIndex_of h0 h1,e],by omega,by omega,h1⟩
  ·rw[if_neg h1] at h;cases h
 ·rw[if_neg h0] at h
  by_cases h1: -(n:Int)≤i
  ·rw[if_pos h1] at h
   have e:(i+n).toNat=j:=Option.some.inj h
   exact⟨by rw[seqIndex_neg (by omega) h1,e],by omega,h1,by omega⟩
  ·rw[if_neg h1] at h;cases h
theorem oB{α:Type}{xs:List α}{i:Int}{v:α}(h:atI xs i=some v):∃j,seqIndex? i xs.length=some j∧xs[j]? =some v∧j<xs.length∧ -(xs.length:Int)≤i∧i<xs.length:=by
 unfold atI at h
 cases e:Cz xs.length i with
 |none=>rw[e] at h;cases h
 |some j=>
  rw[e] at h
  obtain⟨h1,h2,h3,h4⟩:=z7 e
  exact⟨j,h1,h,h2,h3,h4⟩
def gr(b:Expr):Prop:=∀o i,subscripted b false o i=operate [o,i] (getItem o i)
def Ed(X:Cx)(r:R2):Prop:=
 ∀(value slice:Expr) (pins:List (Addr×Obj)) (s:Shared) (σ:St) (H:Hp) (x y:V) (v u:Value) (Q:VK),Inv X pins σ H s→RelV x v→RelV y u→r x y H Q→
  subscripted slice false v u=operate [v,u] (getItem v u)→wpAny (model X.prog X.w) X.A (subscriptTail value slice v u) (EP X pins σ Q) X.xe s
def FY(X:Cx)(id:String)(r:V→List V→Hp→VK→Prop):Prop:=
 ∀(pins:List (Addr×Obj)) (s:Shared) (σ:St) (H:Hp) (x:V) (xs:List V) (v:Value) (us:List Value) (Q:VK),Inv X pins σ H s→RelV x v→Vals xs us→r x xs H Q→
  wpAny (model X.prog X.w) X.A (call (.builtin id) (v::us)) (EP X pins σ Q) X.xe s
section
variable{X:Cx}{a b:Expr}{ta tb:TE}{pos:Pos}
theorem Fu{r:R2}(hr:Ed X r)(ha:PE X a ta)(hb:PE X b tb)(hs:gr b):PE X (.Subscript a b pos) (FT r ta tb):=by
 intro pins s σ H Q I h
 exact Subscript_ (BO ha hb I h fun v u s2 x y H2 I2 rx ry q=>hr a b pins s2 σ H2 x y v u Q I2 rx ry q (hs _ _))
def Dy(K:W.Frag):R2:=fun x y H Q=>∃p xs i v,x= .ref p∧y= .int i∧SqL K H p xs∧atI xs i=some v∧Q v H
def FH(K:W.Frag):R2:=fun x y H Q=>∃p xs i v,x= .ref p∧y= .int i∧SqT K H p xs∧atI xs i=some v∧Q v H
def FG:R2:=fun x y H Q=>∃z i c,x= .str z∧y= .int i∧z.length≤sizeLine∧atI z.cps.toList i=some c∧Q (.str ⟨#[c]⟩) H
theorem uB:Ed X (Dy X.K):=by
 intro value slice pins s σ H x y v u Q I rx ry h hs
 obtain⟨p,xs,i,z,rfl,rfl,hq,he,q⟩:=h
 cases rx
 obtain⟨t,rfl⟩:=ry
 obtain⟨aA,r,pl,hz⟩:=I.list hq
 obtain⟨j,h1,h2,h3,h4,h5⟩:=oB he
 obtain⟨w,ew,D5⟩:=r.get h2
 have hl:=r.length
 have hn:=jf
 have fin:EP X pins σ Q w s:=⟨z,H,I,D5,q⟩
 by_cases h0:0≤i
 ·have hj:i.toNat=j:=by
   rw[seqIndex_of h0 h5] at h1
   exact Option.some.inj h1
  exact item_listR pl.isList h0 (by omega) (by rw[hj];simpa using ew) fin hs
 ·have hj:(i+(aA.toArray.size:Int)).toNat=j:=by
   rw[seqIndex_neg (by omega) h4] at h1
   rw[List.size_toArray,←hl]
   exact Option.some.inj h1
  exact subscriptTail_builtinR (x:=w) pl.isList.typeIs slot_list_getitem.lookup
   (wpAny_getItem_list_neg (Q:=fun r s'=>r=w∧EP X pins σ Q r s') pl.isList (by omega) (by rw[List.size_toArray]<;>omega) (by omega) (by rw[hj];simpa using ew) ⟨rfl,fin⟩) hs
theorem CC:Ed X (FH X.K):=by
 intro value slice pins s σ H x y v u Q I rx ry h hs
 obtain⟨p,xs,i,z,rfl,rfl,hq,he,q⟩:=h
 cases rx
 obtain⟨t,rfl⟩:=ry
 obtain⟨aA,r,pl,hz⟩:=I.tuple hq
 obtain⟨j,h1,h2,h3,h4,h5⟩:=oB he
 obtain⟨w,ew,D5⟩:=r.get h2
 have hl:=r.length
 have hn:=jf
 have fin:EP X pins σ Q w s:=⟨z,H,I,D5,q⟩
 exact subscriptTail_builtinR (x:=w) pl.typeIs slot_tuple_getitem.lookup
  (getItem_tuple (j:=j) (Q:=fun r s'=>r=w∧EP X pins σ Q r s') pl (by omega) (by omega) (by rw[List.size_toArray,←hl];exact h1) (by simpa using ew) ⟨rfl,fin⟩) hs
theorem CB:Ed X FG:=by
 intro value slice pins s σ H x y v u Q I rx ry h hs
 obtain⟨z,i,c,rfl,rfl,hz,he,q⟩:=h
 obtain⟨t,rfl⟩:=rx
 obtain⟨t',rfl⟩:=ry
 obtain⟨j,h1,h2,h3,h4,h5⟩:=oB he
 have hl:z.cps.toList.length=z.length:=by simp[Str.length]
 rw[hl] at h1 h4 h5
 have hn:=jf
 exact tail_any (typeIs_str s z t) slot_str_getitem.lookup (getItem_str (c:=c) (by
  have e1:decide (i< -(2 ^ 63:Int))=false:=decide_eq_false (by omega)
  have e2:decide (i≥2 ^ 63)=false:=decide_eq_false (by omega)
  rw[e1,e2,Bool.or_false]) (by rw[h1];simpa using h2) ⟨.str ⟨#[c]⟩,H,I.tok _,⟨_,rfl⟩,q⟩) hs
theorem pS(lo hi:Option Int)(n:Nat):(sliceBounds lo hi none n).1=((HT.sIx n 0 lo:Nat):Int)∧(sliceBounds lo hi none n).2.1=((HT.sIx n n hi:Nat):Int)∧(sliceBounds lo hi none n).2.2=1:=by
 refine⟨?_,?_,rfl⟩
 ·cases lo with
  |none=>simp[sliceBounds,HT.sIx]
  |some i=>
   simp only[sliceBounds,HT.sIx,Option.getD_none,show (1:Int)>0 by decide,if_true]
   by_cases h:i<0
   ·simp only[h,if_true]<;>omega
   ·simp only[h,if_false]<;>omega
 ·cases hi with
  |none=>simp[sliceBounds,HT.sIx]
  |some i=>
   simp only[sliceBounds,HT.sIx,Option.getD_none,show (1:Int)>0 by decide,if_true]
   by_cases h:i<0
   ·simp only[h,if_true]<;>omega
   ·simp only[h,if_false]<;>omega
theorem mV(aA:List Value)(lo hi:Option Int):slicePick aA.toArray lo hi none=((aA.drop (HT.sIx aA.length 0 lo)).take (HT.sIx aA.length aA.length hi - HT.sIx aA.length 0 lo)).toArray:=by
 obtain⟨h1,h2,h3⟩:=pS lo hi aA.toArray.size
 unfold slicePick
 rw[h1,h2,h3]
 simp only[sliceRange_one,pick_run,List.size_toArray]<;>rfl
def HQ(K:W.Frag):V→Option Int→Option Int→Hp→VK→Prop:=fun x lo hi H Q=>∃a xs,x= .ref a∧SqL K H a xs∧∀p,H p=none→Q (.ref p) (upd H p (.lst (qq xs lo hi)))
theorem AX:SlR X (HQ X.K):=by
 intro pins s σ H x v vl vu lo hi sl Q I rx hs pl pu h
 obtain⟨a,xs,rfl,hx,q⟩:=h
 cases rx
 obtain⟨aA,r,ht,hz⟩:=I.list hx
 have hlen:=r.length
 refine⟨"list",_,slot_list_getitem.lookup,ht.isList.typeIs,?_⟩
 refine wpAny_getItem_list_slice ht.isList hs pl pu .none (by simp) ?_ (by rw[List.size_toArray]<;>omega)
 rw[mV,←hlen]
 refine⟨.ref s.heap.objs.size,_,I.laid (t':=s.toks) (o:= .lst (qq xs lo hi)) (fun b ob q=>Heap.get?_push_of_some _ q) (Nat.le_refl _) ?_,rfl,q _ (I.hok.fresh (Nat.le_refl _))⟩
 exact⟨Nat.le_trans (jJ xs lo hi) hz,_,0,(r.drop (HT.sIx xs.length 0 lo)).take (HT.sIx xs.length xs.length hi - HT.sIx xs.length 0 lo),Heap.get?_push_size _ rfl⟩
def jL:V→Bool
 | .non=>true
 | .bl _=>true
 | .int _=>true
 | .str _=>true
 |_=>false
def zt:V→V→Bool
 | .non, .non=>true
 | .bl a, .bl b=>a==b
 | .bl a, .int b=>(if a then 1 else 0)==b
 | .int a, .bl b=>a==(if b then 1 else 0)
 | .int a, .int b=>a==b
 | .str a, .str b=>a==b
 |_,_=>false
theorem BZ{A:Around}{s:Shared}{y x:V}{u v:Value}(ry:RelV y u)(rx:RelV x v)(fy:jL y=true)(fx:jL x=true):SeqAt.EqAt A s u v (zt y x):=by
 cases y with
 |non=>
  cases ry
  cases x with
  |non=>cases rx;exact SeqAt.EqAt.same _
  |bl b=>cases rx;exact SeqAt.EqAt.none_bool b
  |int b=>obtain⟨t,rfl⟩:=rx;exact SeqAt.EqAt.none_int b t
  |str b=>obtain⟨t,rfl⟩:=rx;exact SeqAt.EqAt.none_str b t
  |_=>exact absurd (show false=true from fx) Bool.false_ne_true
 |bl a=>
  cases ry
  cases x with
  |non=>cases rx;exact SeqAt.EqAt.bool_none a
  |bl b=>cases rx;exact SeqAt.EqAt.bool_bool a b
  |int b=>obtain⟨t,rfl⟩:=rx;exact SeqAt.EqAt.bool_int a b t
  |str b=>obtain⟨t,rfl⟩:=rx;exact SeqAt.EqAt.bool_str a b t
  |_=>exact absurd (show false=true from fx) Bool.false_ne_true
 |int a=>
  obtain⟨t',rfl⟩:=ry
  cases x with
  |non=>cases rx;exact SeqAt.EqAt.int_none a t'
  |bl b=>cases rx;exact SeqAt.EqAt.int_bool a t' b
  |int b=>obtain⟨t,rfl⟩:=rx;exact SeqAt.EqAt.int_int a t' b t
  |str b=>obtain⟨t,rfl⟩:=rx;exact SeqAt.EqAt.int_str a t' b t
  |_=>exact absurd (show false=true from fx) Bool.false_ne_true
 |str a=>
  obtain⟨t',rfl⟩:=ry
  cases x with
  |non=>cases rx;exact SeqAt.EqAt.str_none a t'
  |bl b=>cases rx;exact SeqAt.EqAt.str_bool a t' b
  |int b=>obtain⟨t,rfl⟩:=rx;exact SeqAt.EqAt.str_int a t' b t
  |str b=>obtain⟨t,rfl⟩:=rx;exact SeqAt.EqAt.str_str a t' b t
  |_=>exact absurd (show false=true from fx) Bool.false_ne_true
 |_=>exact absurd (show false=true from fy) Bool.false_ne_true
def zP(x:V)(u:Value):Bool:=match u with
 | .none=>zt .non x
 | .bool b=>zt (.bl b) x
 | .int i _=>zt (.int i) x
 | .str z _=>zt (.str z) x
 |_=>false
theorem xr{x y:V}{u:Value}(r:RelV y u)(f:jL y=true):zP x u=zt y x:=by
 cases y with
 |non=>cases r;rfl
 |bl b=>cases r;rfl
 |int i=>obtain⟨t,rfl⟩:=r;rfl
 |str z=>obtain⟨t,rfl⟩:=r;rfl
 |_=>exact absurd (show false=true from f) Bool.false_ne_true
theorem ou{x:V}:∀{xs:List V}{us:List Value},Vals xs us→xs.all jL=true→us.any (zP x)=xs.any fun y=>zt y x
 |_,_, .nil,_=>rfl
 |y::xs,u::us, .cons r t,f=>by
  rw[List.all_cons,Bool.and_eq_true] at f
  rw[List.any_cons,List.any_cons,xr r f.1,ou t f.2]
theorem lC{A:Around}{s:Shared}{x:V}{v:Value}(rx:RelV x v)(fx:jL x=true):∀{xs:List V}{us:List Value},Vals xs us→xs.all jL=true→∀u∈us,SeqAt.EqAt A s u v (zP x u)
 |_,_, .nil,_=>fun u hu=>by cases hu
 |y::xs,u::us, .cons r t,f=>fun u' hu=>by
  rw[List.all_cons,Bool.and_eq_true] at f
  rcases List.mem_cons.mp hu with rfl | hu
  ·rw[xr r f.1];exact BZ r rx f.1 fx
  ·exact lC rx fx t f.2 u' hu
def Gi(x:V)(xs:List V):Bool:=xs.any fun y=>zt y x
def Jo(K:W.Frag)(neg:Bool):R2:=fun x y H Q=>∃p xs,y= .ref p∧(SqL K H p xs∨SqT K H p xs)∧jL x=true∧xs.all jL=true∧Q (.bl (if neg then !Gi x xs else Gi x xs)) H
theorem pw:OpR X (compareOp .NotIn) (Jo X.K true):=by
 intro pins s σ H x y v u Q I rx ry h
 obtain⟨p,xs,rfl,hq,fx,fs,q⟩:=h
 cases ry
 rcases hq with hq | hq
 ·obtain⟨aA,r,pl,hz⟩:=I.list hq
  refine SeqAt.notIn_listAt (zP x) pl.isList (fun w hw=>lC rx fx r fs w (by simpa using hw)) ⟨.bl _,H,I,rfl,?_⟩
  rw[show aA.toArray.any (zP x)=aA.any (zP x) by simp,ou r fs]
  exact q
 ·obtain⟨aA,r,pl,hz⟩:=I.tuple hq
  refine SeqAt.notIn_tupleAt (zP x) pl (fun w hw=>lC rx fx r fs w (by simpa using hw)) ⟨.bl _,H,I,rfl,?_⟩
  rw[show aA.toArray.any (zP x)=aA.any (zP x) by simp,ou r fs]
  exact q
theorem oE:CallR X (.builtin "len") (fun xs H Q=>∃p ys,xs=[.ref p]∧(SqL X.K H p ys∨SqT X.K H p ys)∧Q (.int ys.length) H):=by
 intro pins s σ H xs us Q I r h
 obtain⟨p,ys,rfl,hq,q⟩:=h
 obtain⟨u,rfl,rx⟩:=vals1 r
 cases rx
 have hn:=jf
 rcases hq with hq | hq
 ·obtain⟨aA,r',pl,hz⟩:=I.list hq
  have hlen:=r'.length
  exact Calls.call_len_list pl.isList (by simp only[List.size_toArray]<;>omega) ⟨.int ys.length,H,I.tok _,⟨s.toks+1,by rw[List.size_toArray,hlen]⟩,q⟩
 ·obtain⟨aA,r',pl,hz⟩:=I.tuple hq
  have hlen:=r'.length
  exact len_tuple pl (by simp only[List.size_toArray]<;>omega) ⟨.int ys.length,H,I.tok _,⟨s.toks+1,by rw[List.size_toArray,hlen]⟩,q⟩
theorem oF:CallR X (.builtin "len") (fun xs H Q=>∃z,xs=[.str z]∧z.length≤sizeLine∧Q (.int z.length) H):=by
 intro pins s σ H xs us Q I r h
 obtain⟨z,rfl,hz,q⟩:=h
 obtain⟨u,rfl,t,rfl⟩:=vals1 r
 have hn:=jf
 exact len_str (by omega) ⟨.int z.length,H,I.tok _,⟨_,rfl⟩,q⟩
theorem CallR.or{f:Value}{r r':List V→Hp→VK→Prop}(h:CallR X f r)(h':CallR X f r'):CallR X f (fun xs H Q=>r xs H Q∨r' xs H Q):=by
 intro pins s σ H xs us Q I rs q
 rcases q with q | q
 ·exact h pins s σ H xs us Q I rs q
 ·exact h' pins s σ H xs us Q I rs q
theorem mD:CallR X (.type "tuple") (fun xs H Q=>∃p ys,xs=[.ref p]∧((SqL X.K H p ys∧∀l,H l=none→Q (.ref l) (upd H l (.tup ys)))∨(SqT X.K H p ys∧Q (.ref p) H))):=by
 intro pins s σ H xs us Q I r h
 obtain⟨p,ys,rfl,h⟩:=h
 obtain⟨u,rfl,rx⟩:=vals1 r
 cases rx
 rcases h with⟨hq,q⟩ | ⟨hq,q⟩
 ·obtain⟨aA,r',pl,hz⟩:=I.list hq
  have hlen:=r'.length
  refine call_tuple_list pl.isList (fun h' kp=>?_) (by simp only[List.size_toArray]<;>omega)
  have I1:Inv X pins σ H {s with heap:=h'}:=I.kept (t':=s.toks) kp
  have I2:Inv X pins σ (upd H h'.objs.size (.tup ys)) {s with heap:=h'.push {cls:= .type "tuple",data:= .seq aA.toArray} }:=
   I1.laid (t':=s.toks) (fun b o e=>Heap.get?_push_of_some _ e) (Nat.le_refl _) (show ObjOk X.prog X.w _ _ _ (.tup ys) from⟨hz,aA,r',IsTup.new _ _⟩)
  exact⟨.ref h'.objs.size,_,I2,rfl,q _ (I1.hok.fresh (Nat.le_refl _))⟩
 ·obtain⟨aA,r',pl,hz⟩:=I.tuple hq
  exact call_tuple_same pl ⟨.ref p,H,I,rfl,q⟩
def Gs(K:W.Frag)(T:String)(x:V)(H:Hp):Prop:=match x with
 | .str _=>T="str"
 | .int _=>T="int"
 | .ref p=>(T="list"∧∃xs,SqL K H p xs)∨(T="tuple"∧∃o,K.lookup p=some o∧o.cls= .type "tuple"∧o.dict=none)∨
    (T="dict"∧((∃ay,H p=some (.dK ay))∨∃ay,H p=some (.dT ay)))∨(T="set"∧∃S n,H p=some (.set S n))
 |_=>False
theorem DR{pins:List (Addr×Obj)}{σ:St}{H:Hp}{s:Shared}{T:String}{x:V}{v:Value}(I:Inv X pins σ H s)(r:RelV x v)(ty:Gs X.K T x H):
 s.TypeIs v T∧∀a,v= .ref a→∃ob,s.heap.get? a=some ob∧ob.dict=none:=by
 cases x with
 |str z=>
  obtain⟨t,rfl⟩:=r
  cases (show T="str" from ty)
  exact⟨typeIs_str s z t,fun _ e=>nomatch e⟩
 |int i=>
  obtain⟨t,rfl⟩:=r
  cases (show T="int" from ty)
  exact⟨typeIs_int s i t,fun _ e=>nomatch e⟩
 |ref p=>
  cases r
  rcases ty with⟨rfl,xs,hq⟩ | ⟨rfl,o,hk,hc,hd⟩ | ⟨rfl,hk⟩ | ⟨rfl,S,n,hk⟩
  ·obtain⟨aA,_,pl,_⟩:=I.list hq
   refine⟨pl.isList.typeIs,fun a e=>?_⟩
   cases e
   obtain⟨o,n,e,c,hd,_⟩:=pl
   exact⟨o,e,hd⟩
  ·refine⟨⟨o,I.kIn p o hk,hc⟩,fun a e=>?_⟩
   cases e
   exact⟨o,I.kIn _ o hk,hd⟩
  ·have z:∃o,s.heap.get? p=some o∧o.ExactDict:=by
    rcases hk with⟨ay,hk⟩ | ⟨ay,hk⟩
    ·obtain⟨_,_,_,_,o,_,_,e,ex,_⟩:=I.hok p _ hk
     exact⟨o,e,ex⟩
    ·obtain⟨_,_,_,_,o,_,_,e,ex,_⟩:=I.hok p _ hk
     exact⟨o,e,ex⟩
   obtain⟨o,e,ex⟩:=z
   refine⟨⟨o,e,ex.1⟩,fun a e2=>?_⟩
   cases e2
   exact⟨o,e,ex.2.1⟩
  ·obtain⟨o,_,_,_,e,ex,_⟩:=I.hok p _ hk
   refine⟨⟨o,e,ex.1⟩,fun a e2=>?_⟩
   cases e2
   exact⟨o,e,ex.2.1⟩
 |_=>exact False.elim ty
def HX(K:W.Frag)(T:String)(r:V→List V→Hp→VK→Prop)(to:TE)(t:TA):TE:=fun σ H Q=>to σ H fun x H1=>Gs K T x H1∧t σ H1 fun xs H2=>r x xs H2 Q
variable{o e:Expr}{es:List Expr}{to:TE}{t:TA}{name:Str}{apos a5:Pos}{T id:String}{r:V→List V→Hp→VK→Prop}
theorem yB(pa:PlainAttrs T)(slot:Slot T name id)(Hn:typeOf (.builtin id)=pure (.type "method_descriptor"))(hm:FY X id r)(ho:PE X o to)(ha:PA X (e::es) t)
 (fN:attributeBase o name X.env (eval o X.env)=eval o X.env:=by rfl)
 (lg:((backTo a5 (starEach (e::es) X.env)).all (fun x=>!x.1)&&(backToKw a5 (keywordEach [] X.env)).all (fun x=>x.1.isSome)
  &&decide ((e::es).length+([]:List Keyword).length+(if ([]:List Keyword).isEmpty then 0 else 1)<30))=true:=by rfl)
 (fO:(apos.endLine==a5.line)=true:=by rfl) (hs:starEach (e::es) X.env=(false,eval e X.env)::starEach es X.env:=by rfl) (sM:(backTo a5 (starEach es X.env)).any (·.1)=false:=by rfl):
 PE X (.Call (.Attribute o name apos) (e::es) [] a5) (HX X.K T r to t):=by
 intro pins s σ H Q I h
 refine wpAny_Call_method_late fN lg fO rfl (bI (ho pins s σ H _ I h) fun v s1 ⟨x,H1,I1,r1,ty,q1⟩=>?_)
 obtain⟨h1,h2⟩:=DR I1 r1 ty
 refine⟨T,id,pa,slot,Hn,h1,h2,?_⟩
 have hA:=ha a5 pins s1 σ H1 _ I1 q1
 rw[hs] at hA⊢
 refine Calls.callWith_builtin (by show (false||(backTo a5 (starEach es X.env)).any (·.1))=false;rw[sM]<;>rfl) (Calls.evalArgs_plain ?_)
 exact bI hA fun us s2 ⟨vs,H2,I2,r2,q2⟩=>hm pins s2 σ H2 x vs v us Q I2 r1 r2 q2
end
def Il(X:Cx)(id:String)(r:V→List V→Hp→VK→Prop):Prop:=
 ∀(pins:List (Addr×Obj)) (s:Shared) (σ:St) (H:Hp) (x:V) (xs:List V) (v:Value) (us:List Value) (Q:VK),Inv X pins σ H s→RelV x v→Vals xs us→r x xs H Q→
  wpAny (model X.prog X.w) X.A (call (.builtin id) (v::us)) (EP X pins σ Q) X.xe s
theorem Vals.one:∀{x:V}{us:List Value},Vals [x] us→∃u,us=[u]∧RelV x u
 |_,_, .cons r .nil=>⟨_,rfl,r⟩
theorem Vals.reverse{xs:List V}{us:List Value}(h:Vals xs us):Vals xs.reverse us.reverse:=by
 induction h with
 |nil=>exact .nil
 |cons r t ih=>rw[List.reverse_cons,List.reverse_cons];exact Vals.append ih (.cons r .nil)
section
variable{X:Cx}{pins:List (Addr×Obj)}{σ:St}{H:Hp}{s:Shared}{l b:Addr}{xs ys zs:List V}
theorem Inv.lset{aA its':List Value}{n:Nat}{f:Array Value→Array Value}{t':Nat}(I:Inv X pins σ H s)(hH:H l=some (.lst xs))
 (e:s.heap.get? l=some {cls:= .type "list",data:= .seq aA.toArray n})(hf:f aA.toArray=its'.toArray)(hv:Vals ys its')(hz:ys.length≤sizeLine):
 Inv X pins σ (upd H l (.lst ys)) {s with heap:=s.heap.update l (Obj.mapSeq f),toks:=t'}:=by
 have q:=PySem.IsL.update e f
 rw[hf] at q
 refine I.write (x:=l) (e:=l) (by rw[hH];exact trivial) (.inl rfl) (fun b' u hb hu=>(Heap.get?_update_other s.heap (Obj.mapSeq f) (Ne.symm hb)).trans hu) ⟨_,q⟩ ?_
 exact⟨hz,its',_,hv,q⟩
theorem Inv.fresh(I:Inv X pins σ H s):H s.heap.objs.size=none:=I.hok.fresh (Nat.le_refl _)
theorem Inv.lstM(I:Inv X pins σ H s)(hH:H l=some (.lst xs)):xs.length≤sizeLine∧∃(aA:List Value) (n:Nat),Vals xs aA∧xs.length=aA.length∧s.heap.get? l=some {cls:= .type "list",data:= .seq aA.toArray n}:=by
 obtain⟨z,aA,n,r,e⟩:=I.hok l _ hH
 exact⟨z,aA,n,r,r.length,e⟩
theorem yh{n:Nat}(h:n≤sizeLine):Builtin.List.listTooLong n=false:=by
 unfold Builtin.List.listTooLong
 exact decide_eq_false (by omega)
end
section
variable{X:Cx}
def u3:V→List V→Hp→VK→Prop:=fun x vs H Q=>∃l xs y,x= .ref l∧vs=[y]∧H l=some (.lst xs)∧xs.length<sizeLine∧Q .non (upd H l (.lst (xs++[y])))
theorem nM:Il X "list.append" u3:=by
 intro pins s σ H x vs v us Q I rx rv h
 obtain⟨l,xs,y,rfl,rfl,hH,hz,q⟩:=h
 cases rx
 obtain⟨u,rfl,ru⟩:=rv.one
 obtain⟨z,aA,n,r,hl,e⟩:=I.lstM hH
 refine call_meets F.slot_list_append ⟨_,e,rfl⟩ F.entry_list_append (F.args_list_append_2 _ _) (PySem.list_append l aA.toArray n u (by rw[List.size_toArray];omega)) ⟨e,?_⟩
 refine⟨.non,_,I.lset (its':=aA++[u]) hH e (by simp) (r.append (.cons ru .nil)) ?_,rfl,q⟩
 rw[List.length_append,List.length_singleton]
 omega
def u4:V→List V→Hp→VK→Prop:=fun x vs H Q=>∃l b xs zs,x= .ref l∧vs=[.ref b]∧H l=some (.lst xs)∧H b=some (.lst zs)∧xs.length+zs.length≤sizeLine∧Q .non (upd H l (.lst (xs++zs)))
theorem vZ:Il X "list.extend" u4:=by
 intro pins s σ H x vs v us Q I rx rv h
 obtain⟨l,b,xs,zs,rfl,rfl,hH,hB,hz,q⟩:=h
 cases rx
 obtain⟨u,rfl,ru⟩:=rv.one
 cases ru
 obtain⟨z,aA,n,r,hl,e⟩:=I.lstM hH
 obtain⟨z2,eD,n2,r2,zA,e2⟩:=I.lstM hB
 have hsz:aA.toArray.size+eD.toArray.size≤sizeLine:=by rw[List.size_toArray,List.size_toArray];omega
 have EW:¬(!aA.toArray.isEmpty&&Builtin.List.listTooLong (aA.toArray.size+eD.toArray.size))=true:=by
  rw[yh hsz,Bool.and_false]
  exact Bool.false_ne_true
 refine call_meets F.slot_list_extend ⟨_,e,rfl⟩ F.entry_list_extend (F.args_list_extend_2 _ _)
  (AutoSeq1.list_extend_list_list_0 l aA.toArray n b eD.toArray n2 EW (by rw[List.size_toArray];omega) (by omega)) ⟨e,e2,?_⟩
 refine⟨.non,_,I.lset (its':=aA++eD) hH e (by simp) (r.append r2) ?_,rfl,q⟩
 rw[List.length_append]
 omega
end
section
variable{prog:Program}{w:World}{A:Around}{E:Value→Shared→Prop}{s:Shared}
end
section
variable{X:Cx}
end
end L2
namespace Att
open PySem PySem.W PySem.Calls PyProof.Rows
theorem ints_of_wellAll{P:Params}{h:Heap}:∀(ns:List Int) (vs:List Value),WellAll P h vs (ns.map WData.int)→IntsAre vs ns:=by
 intro ns
 induction ns with
 |nil=>
  intro vs w
  rw[List.map_nil] at w
  cases w
  exact .nil
 |cons n ns ih=>
  intro vs w
  rw[List.map_cons] at w
  cases w with
  |cons a b=>
   cases a
   exact .cons _ _ (ih _ b)
theorem script_of{l:OpenLaw}{n:Nat}(hn:l.most=some n){P:Params}{h:Heap}{args:List WData}{vals:List Value}
 (zU:l.row.toRowW.claim.pre args=true)(Hq:WellAll P h vals args):
 ∃a vs ns,vals=[Value.ref a]∧args=[WData.list (ns.map WData.int)]∧h.get? a=some {cls:= .type "list",data:= .seq vs.toArray}∧IntsAre vs ns∧ns.length≤n:=by
 have Kq:WShape.hasAll [] args [.list .int]=true:=(pre_splitW zU).1
 have hc:l.pre.holds [] {args:=args}=true:=(pre_splitW zU).2
 obtain⟨d,r,rfl,h1,h2⟩:=hasAllW_cons Kq
 obtain rfl:=hasAllW_nil h2
 obtain⟨xs,rfl,h3⟩:=hasW_list h1
 obtain⟨ns,rfl⟩:=items_int h3
 have hlen:ns.length≤n:=by
  unfold OpenLaw.pre at hc
  have h4:(WTm.not (.lt (.lit (.int (n:Int))) (.len (.arg 0)))).holds [] {args:=[.list (ns.map .int)]}=true:=by
   have h4:=(holds_andW hc).1
   rw[hn] at h4
   exact h4
  have h5:=condW_of h4 (w_not (w_lt w_lit (w_len_list (w_arg rfl))))
  rw[List.length_map] at h5
  refine Nat.le_of_not_lt fun q=>?_
  have q':(n:Int)<((ns.length:Nat):Int):=by omega
  first
   |(rw [decide_eq_true q'] at h5;exact absurd h5 (by decide))
   |(simp at h5;omega)
 cases Hq with
 |cons w1 w2=>
  cases w2
  cases w1 with
  |list ho GY=>exact⟨_,_,ns,rfl,rfl,ho,ints_of_wellAll ns _ GY,hlen⟩
theorem post_true(l:OpenLaw)(args:List WData):l.row.toRowW.claim.post args (.bool true) args=true:=
 postW_of (r:=l.row.toRowW) (X:=(true==true))
  (show WShape.has [] (.bool true) .bool=true by first | rfl | decide | simp[WShape.has,WShape.arms,WShape.armsAll])
  (show (WTm.eq .res (.lit (.bool true))).value [] {args:=args,res:=some (.bool true),after:=args}=some (.bool (true==true)) from w_eq_bool (w_res rfl) w_lit) rfl
theorem attach_call{l:OpenLaw}{n:Nat}{q:Program}{loose:List Str}{XP:(Str→Option Value)→Heap→Prop}{YP:World→Heap→Prop}{d:DefRec}
 (hn:l.most=some n)(EM:d.params.defaults=[])
 (call:∀(w:World) (s₀ s₁:Shared) (mg mb:Str→Option Value) (fa:Addr) (o:Obj) (pm cd doc:Value) (a:Addr) (vs:List Value) (ns:List Int),
  Ground q loose [] XP w s₀ mg mb s₁.heap→YP w s₁.heap→
  s₁.heap.get? fa=some o→o.data= .func (docDef d.name d.params d.body d.scope pm cd doc)→s₁.heap.CodeRec cd d.name→mg d.name=some (.ref fa)→
  s₁.heap.get? a=some {cls:= .type "list",data:= .seq vs.toArray}→IntsAre vs ns→ns.length≤n→s₁.gens= #[]→
  codeAny (model l.prog w) callerA (.call (.ref fa) ⟨[.ref a],[]⟩) (fun r s'=>r= .ok (.ret (.bool true))∧OldK s₁.heap s'.heap∧s'.os=s₁.os∧AllBare s'.gens) s₁):
 WalkO q loose XP YP l.row.toRowW d [] (fun f vs=>PySem.call f vs):=by
 intro w s₀ s₁ mg mb G Y fa o pm cd doc dV kV ho hd wN hD Cf hg args vals as zU Ki Lf Hq Ld
 obtain rfl:dV= .none:=Dflts.none hD EM
 obtain rfl:kV= .none:=Dflts.noKw hD
 obtain⟨a,vs,ns,rfl,rfl,xM,hints,hlen⟩:=script_of hn zU Hq
 refine enter_call (codeAny_mono (call w s₀ s₁ mg mb fa o pm cd doc a vs ns G Y ho (fd_plain hd) wN Cf xM hints hlen hg) fun r s' hq=>?_)
 obtain⟨rfl,h2,h3,h4⟩:=hq
 exact⟨.inl ⟨.bool true, .bool true,[],rfl,fun _=>rfl, .bool true,post_true l _,fun _=>⟨List.Pairwise.nil,fun _ hm=>(nomatch hm)⟩⟩,h2,h3,h4⟩
section
variable{prog:Program}{w:World}{A:Around}{E:Value→Shared→Prop}{s:Shared}{K:Frag}
def ledger(h:Heap)(L d:Addr):List (Addr×Obj):=(List.range h.objs.size).filterMap fun a=>if a=L∨a=d then none else(h.get? a).map fun o=>(a,o)
end
end Att
namespace L2
open PySem PySem.Spec PyProof.Rows
theorem om:∀{vs:List Value}{ns:List Int},IntsAre vs ns→Vals (ns.map V.int) vs
 |_,_, .nil=> .nil
 |_,_, .cons n t h=> .cons ⟨t,rfl⟩ (om h)
def BM(H:Hp):Prop:=∀b,H b=none∨∃o xs,H b=some (.frz o (.lst xs))
theorem qJ{P:Program}{w:World}{K:W.Frag}{mg mb:Str→Option Value}{CX:sf}{k:Nat}{fa a:Addr}{fd:FuncData}{x:Str}{sp:Sp}{s₁:Shared}{vs:List Value}{ns:List Int}
 (KX:K.In s₁.heap)(Ge:s₁.heap.Ns mainGlobals mg)(hb:s₁.heap.Ns builtinsNs mb)(JX:∀x:Str,x≠"__name__"→mb x=bootBuiltins x)(EV:s₁.heap.NoLimit)(hg:s₁.gens= #[])
 (ha:s₁.heap.get? a=some {cls:= .type "list",data:= .seq vs.toArray})(hi:IntsAre vs ns)(hl:ns.length≤sizeLine)(hr:Room k callerA)
 (F:∀base:Heap,K.In base→base.Ns mainGlobals mg→FnOk P w K mg base CX k fa fd [x] sp)(EK:∀(s:Shared) (u:Value),BindsTo s fd ⟨[u],[]⟩ [(x,u)])
 (Bw:∀H:Hp,BM H→SqL K H a (ns.map V.int)→sp [.ref a] H (fun v _=>v= .bl true) fun _ _ _=>False)
 (GK:∀H e s',CX [] H s₁ (fun _ _ _=>False) e s'→False):
 codeAny (model P w) callerA (.call (.ref fa) ⟨[.ref a],[]⟩) (fun r s'=>r= .ok (.ret (.bool true))∧OldK s₁.heap s'.heap∧s'.os=s₁.os∧AllBare s'.gens) s₁:=by
 have rv:=om hi
 have HB:=hi.length
 have core:∀H:Hp,BM H→SqL K H a (ns.map V.int)→HOk P w H s₁.heap→(∀b,H b≠none→b=a)→(H a≠none→K.lookup a=none)→
  codeAny (model P w) callerA (.call (.ref fa) ⟨[.ref a],[]⟩) (fun r s'=>r= .ok (.ret (.bool true))∧OldK s₁.heap s'.heap∧s'.os=s₁.os∧AllBare s'.gens) s₁:=by
  intro H hO hS hok hA hK
  have uf:∀{b:Addr}{o:Obj},s₁.heap.get? b=some o→H b=none→(oT s₁.heap H).get? b=some o:=fun e n=>xH e n
  have Fg:∀{b:Addr}{o:Obj}{es:Array DictEntry}{ep:Nat},s₁.heap.get? b=some o→o.data= .dict es ep→H b=none:=fun {b o es ep} e d=>by
   cases q:H b with
   |none=>rfl
   |some u=>
    have e':b=a:=hA b (by rw[q];simp)
    subst e'
    rw[ha] at e;cases e
    have d':Data.seq vs.toArray _=Data.dict es ep:=d
    cases d'
  have Gm:∀{b:Addr}{m:Str→Option Value},s₁.heap.Ns b m→(oT s₁.heap H).Ns b m:=fun {b m} ⟨o,es,ep,e,d,r⟩=>⟨o,es,ep,uf e (Fg e d),d,r⟩
  have ID:K.In (oT s₁.heap H):=fun b o e=>uf (KX b o e) (by
   cases q:H b with
   |none=>rfl
   |some u=>
    have e':b=a:=hA b (by rw[q];simp)
    subst e'
    rw[hK (by rw[q];simp)] at e;cases e)
  have hM:Mod K mg (oT s₁.heap H):=⟨ID,Gm Ge,⟨mb,Gm hb,JX⟩,let ⟨mc,h1,h2⟩:=EV;⟨mc,Gm h1,h2⟩⟩
  have e0:Env0 P w K mg (oT s₁.heap H) callerA [] s₁ H:=⟨rfl,hM,fun b o e=>Ag e,Nat.le_of_eq (vG _ _),trivial,fun b hb=>absurd (show b∈([]:List Addr) from hb) (by simp),hok, .of_eq hg⟩
  refine codeAny_mono ((F _ ID (Gm Ge)).run callerA [] s₁ H ⟨[.ref a],[]⟩ [.ref a] [.ref a] _ _ hr e0 (EK s₁ (.ref a)) (.cons rfl .nil) (Bw H hO hS)) fun r s' h=>?_
  cases r with
  |error e=>exact(GK H e s' h).elim
  |ok fl=>
   cases fl with
   |next=>exact False.elim h
   |brk=>exact False.elim h
   |cont=>exact False.elim h
   |ret u=>
    obtain⟨v,H',os,bare,un,He,r',q⟩:=h
    have q':v= .bl true:=q
    subst q'
    obtain rfl:u=Value.bool true:=r'
    refine⟨rfl,OldK.of_keep fun b o e=>?_,os,bare⟩
    cases q:H b with
    |none=>exact un.keep b o e q (by intro z;exact absurd (show b∈([]:List Addr) from z) (by simp)) (by simp)
    |some u=>
     rcases hO b with z | ⟨ob,xs,z⟩
     ·rw[q] at z;cases z
     ·have z2:=un.frzs b ob _ z
      obtain⟨e1,_⟩:=hok b _ z
      obtain⟨e2,_⟩:=He b _ z2
      rw[e] at e1;cases e1
      exact e2
 cases hk:K.lookup a with
 |some o=>
  have e:=KX a o hk
  rw[ha] at e
  cases e
  refine core (fun _=>none) (fun _=> .inl rfl) (.inr ⟨_,vs.toArray,_,hk,rfl,rfl,rfl,by rw[List.size_toArray,HB];exact hl,by simpa using rv⟩) (fun b u z=>by have z':(none:Option HO)=some u:=z;cases z') (fun b z=>absurd rfl z) fun z=>absurd rfl z
 |none=>
  refine core (fun b=>if b=a then some (.frz {cls:= .type "list",data:= .seq vs.toArray} (.lst (ns.map V.int))) else none) (fun b=>?_) (.inl (.inr ⟨{cls:= .type "list",data:= .seq vs.toArray},if_pos rfl⟩)) (fun b u z=>?_) (fun b z=>?_) fun _=>hk
  ·by_cases hb:b=a
   ·exact .inr ⟨_,_,if_pos hb⟩
   ·exact .inl (if_neg hb)
  ·by_cases hb:b=a
   ·have z':=(if_pos hb).symm.trans z
    cases z'
    subst hb
    exact⟨ha,by rw[List.length_map];exact hl,vs,_,rv,ha⟩
   ·have z':=(if_neg hb).symm.trans z
    cases z'
  ·by_cases hb:b=a
   ·exact hb
   ·exact absurd (if_neg hb) z
abbrev K4{K:W.Frag}{h:Heap}(_:K.In h):W.Frag:=K
theorem Gu{l:PySem.W.OpenLaw}{n k:Nat}{q:Program}{loose:List Str}{XP:(Str→Option Value)→Heap→Prop}{YP:World→Heap→Prop}{d:DefRec}{K:Params→W.Frag}{CX:World→sf}{sp:World→Sp}{x:Str}
 (hn:l.most=some n)(Gd:n≤sizeLine)(EM:d.params.defaults=[])(hr:Room k callerA)
 (hY:∀(w:World) (h:Heap),YP w h→(K w.params).In h)
 (F:∀(w:World) (mg:Str→Option Value) (fa:Addr) (h:Heap),(K w.params).In h→h.Ns mainGlobals mg→mg d.name=some (.ref fa)→
  ∃fd:FuncData,(∀(s:Shared) (u:Value),BindsTo s fd ⟨[u],[]⟩ [(x,u)])∧
   ∀base:Heap,(K w.params).In base→base.Ns mainGlobals mg→FnOk l.prog w (K w.params) mg base (CX w) k fa fd [x] (sp w))
 (Bw:∀(w:World) (H:Hp) (a:Addr) (ns:List Int),ns.length≤n→BM H→SqL (K w.params) H a (ns.map V.int)→sp w [.ref a] H (fun v _=>v= .bl true) fun _ _ _=>False)
 (GK:∀(w:World) (H:Hp) (s:Shared) (e:Value) (s':Shared),CX w [] H s (fun _ _ _=>False) e s'→False):
 PySem.W.WalkO q loose XP YP l.row.toRowW d [] (fun f vs=>PySem.call f vs):=by
 refine Att.attach_call hn EM fun w s₀ s₁ mg mb fa o pm cd doc a vs ns G Y ho hd wN Cf xM hints hlen hg=>?_
 have KX:=hY w _ Y
 obtain⟨fd,hb,hF⟩:=F w mg fa _ KX G.T.g Cf
 exact qJ KX G.T.g G.T.b G.T.builtins G.T.nolimit hg xM hints (Nat.le_trans hlen Gd) hr hF hb (fun H hO hS=>Bw w H a ns hlen hO hS) fun H e s'=>GK w H s₁ e s'
abbrev Jx:sf:=fun _ _ _ _ _ _=>False
structure Fun (K:W.Frag) (x qual:Str) (st:Stmt) (f:Addr) (fd:FuncData):Prop where
 ex:∃(oc:Value) (od:Option Addr) (kV doc pm:Value) (an:Option Addr) (bp ct:Value) (BF:Array (Option Value)),
  fd=PySem.W.fnOf x qual (c6 st) (aO st) (af st) .none kV doc pm an bp ct∧K.lookup f=some ⟨oc,od, .func fd,BF⟩∧PySem.W.codeIn K bp qual=true
 kp:PySem.W.keepIn K (.ref f)=true
section
variable{P:Program}{w:World}{K:W.Frag}{mg:Str→Option Value}{base:Heap}
theorem Fun.binds{x qual:Str}{st:Stmt}{f:Addr}{fd:FuncData}{ps:List Str}(F:Fun K x qual st f fd)
 (h:∀(kV doc pm:Value) (an:Option Addr) (bp ct:Value) (us:List Value),us.length=ps.length→bindArgs (PySem.W.fnOf x qual (c6 st) (aO st) (af st) .none kV doc pm an bp ct) ⟨us,[]⟩=pure (ps.zip us)):Binds K fd ps []:=by
 obtain⟨oc,od,kV,doc,pm,an,bp,ct,BF,rfl,lk,wN⟩:=F.ex
 exact .all (h kV doc pm an bp ct)
theorem xx{x qual:Str}{st:Stmt}{f:Addr}{oc:Value}{od an:Option Addr}{BF:Array (Option Value)}{kV doc pm bp ct:Value}(l:K.lookup f=some ⟨oc,od, .func (PySem.W.fnOf x qual (c6 st) (aO st) (af st) .none kV doc pm an bp ct),BF⟩)
 (c:PySem.W.codeIn K bp qual=true)(k:PySem.W.keepIn K (.ref f)=true):Fun K x qual st f (PySem.W.fnOf x qual (c6 st) (aO st) (af st) .none kV doc pm an bp ct):=⟨⟨oc,od,kV,doc,pm,an,bp,ct,BF,rfl,l,c⟩,k⟩
end
section
variable{X:Cx}
theorem pv(i:Nat){x:Str}{pos:Pos}(hN:X.N[i]? =some x:=by rfl)(hv:GC X.env.scope x:=by first | exact Or.inl rfl | exact Or.inr (Or.inl rfl) | exact Or.inr (Or.inr rfl))(hd:(x==("__debug__":Str))=false:=by decide)
 (wN:(x==("__classdict__":Str))=false:=by decide):PE X (.Name x pos) (mX i):=Dk hN hv hd wN
end
def Same(H H':Hp):Prop:=∀b o,H b=some o→H' b=some o
theorem Same.refl(H:Hp):Same H H:=fun _ _ h=>h
theorem Same.trans{H H1 H2:Hp}(a:Same H H1)(b:Same H1 H2):Same H H2:=fun c o h=>b c o (a c o h)
theorem Same.free{H H':Hp}(e:Same H H'){l:Addr}(h:H' l=Option.none):H l=Option.none:=by
 cases q:H l with
 |none=>rfl
 |some o=>
  rw[e l o q] at h
  cases h
theorem Same.seq{K:W.Frag}{H H':Hp}{a:Addr}{xs:List V}(e:Same H H')(h:SqL K H a xs):SqL K H' a xs:=by
 rcases h with(h | ⟨o,h⟩) | h
 ·exact .inl (.inl (e _ _ h))
 ·exact .inl (.inr ⟨o,e _ _ h⟩)
 ·exact .inr h
section
variable{κ:Type}[DecidableEq κ]
def i2(ay:List (κ×V))(k:κ):Option V:=(ay.find? fun kv=>decide (kv.1=k)).map (·.2)
def putK(ay:List (κ×V))(k:κ)(v:V):List (κ×V):=
 if (ay.any fun kv=>decide (kv.1=k))=true then ay.map (fun kv=>if kv.1=k then(kv.1,v) else kv) else ay++[(k,v)]
theorem i4{p:κ×V}{r:List (κ×V)}{k:κ}(e:p.1=k):i2 (p::r) k=some p.2:=by simp[i2,List.find?_cons,e]
theorem i3{p:κ×V}{r:List (κ×V)}{k:κ}(e:¬p.1=k):i2 (p::r) k=i2 r k:=by simp[i2,List.find?_cons,e]
theorem ml(k:κ):∀ay:List (κ×V),(ay.any fun kv=>decide (kv.1=k))=(i2 ay k).isSome
 |[]=>rfl
 |p::r=>by
  rw[List.any_cons]
  by_cases e:p.1=k
  ·simp only[i4 e,decide_eq_true e,Bool.true_or,Option.isSome_some]
  ·rw[i3 e,decide_eq_false e,Bool.false_or];exact ml k r
theorem d8(ay:List (κ×V))(k:κ)(v:V):(putK ay k v).length≤ay.length+1:=by
 unfold putK
 split
 ·rw[List.length_map];omega
 ·rw[List.length_append,List.length_cons,List.length_nil];omega
theorem RelO.isSome_eq{o:Option V}{u:Option Value}(r:RelO o u):o.isSome=u.isSome:=by
 cases o with
 |none=>cases u with
  |none=>rfl
  |some _=>exact(show False from r).elim
 |some _=>cases u with
  |none=>exact(show False from r).elim
  |some _=>rfl
theorem KV.val{ay:List (κ×V)}{vs:List (κ×Value)}(r:KV ay vs)(k:κ):RelO (i2 ay k) (valueAt vs k):=by
 unfold KV at r
 induction r with
 |nil=>exact True.intro
 | @cons p q ps qs h t ih=>
   obtain⟨h1,h2⟩:=h
   by_cases e:p.1=k
   ·have e':q.1=k:=h1.symm.trans e
    have b:valueAt (q::qs) k=some q.2:=by simp[valueAt,List.find?_cons,e']
    rw[i4 e,b];exact h2
   ·have e':¬q.1=k:=fun z=>e (h1.trans z)
    have b:valueAt (q::qs) k=valueAt qs k:=by simp[valueAt,List.find?_cons,e']
    rw[i3 e,b];exact ih
theorem KV.any{ay:List (κ×V)}{vs:List (κ×Value)}(r:KV ay vs)(k:κ):(ay.any fun kv=>decide (kv.1=k))=vs.any fun kv=>decide (kv.1=k):=by
 unfold KV at r
 induction r with
 |nil=>rfl
 |cons h t ih=>rw[List.any_cons,List.any_cons,ih,h.1]
theorem KV.repl{ay:List (κ×V)}{vs:List (κ×Value)}(r:KV ay vs)(k:κ){y:V}{u:Value}(ry:RelV y u):
 KV (ay.map fun kv=>if kv.1=k then(kv.1,y) else kv) (vs.map fun kv=>if kv.1=k then(kv.1,u) else kv):=by
 unfold KV at r⊢
 induction r with
 |nil=>exact .nil
 | @cons p q ps qs h t ih=>
   rw[List.map_cons,List.map_cons]
   refine .cons ?_ ih
   obtain⟨h1,h2⟩:=h
   by_cases e:p.1=k
   ·rw[if_pos e,if_pos (h1.symm.trans e)];exact⟨h1,ry⟩
   ·rw[if_neg e,if_neg (fun z=>e (h1.trans z))];exact⟨h1,h2⟩
theorem KV.put{ay:List (κ×V)}{vs:List (κ×Value)}(r:KV ay vs)(k:κ){y:V}{u:Value}(ry:RelV y u):KV (putK ay k y) (stored vs k u):=by
 unfold putK stored
 rw[r.any k]
 by_cases e:(vs.any fun kv=>decide (kv.1=k))=true
 ·rw[if_pos e,if_pos e];exact r.repl k ry
 ·rw[if_neg e,if_neg e];exact Paired.snoc r ⟨rfl,ry⟩
theorem KV.length{ay:List (κ×V)}{vs:List (κ×Value)}(r:KV ay vs):ay.length=vs.length:=Paired.length r
end
theorem uE{P:Program}{w:World}{k:Key}{u:Value}(r:RelV (kV k) u):(bA P w).is k u=true:=by
 cases k with
 |inl i=>obtain⟨t,e⟩:=(show∃t,u=Value.int i t from r);subst e;exact qP P w i t
 |inr x=>obtain⟨t,e⟩:=(show∃t,u=Value.str x t from r);subst e;exact qQ P w x t
theorem CD{a b:Key}(e:kV a=kV b):a=b:=by
 cases a with
 |inl i=>cases b with
  |inl j=>have e':V.int i=V.int j:=e;injection e' with e';rw[e']
  |inr y=>exact nomatch (show V.int i=V.str y from e)
 |inr x=>cases b with
  |inl j=>exact nomatch (show V.str x=V.int j from e)
  |inr y=>have e':V.str x=V.str y:=e;injection e' with e';rw[e']
theorem uF:∀{a b:List Key},a.map kV=b.map kV→a=b
 |[],[],_=>rfl
 |[],_::_,e=>by simp at e
 |_::_,[],e=>by simp at e
 |x::xs,y::ys,e=>by
  rw[List.map_cons,List.map_cons] at e
  injection e with e1 e2
  rw[CD e1,uF e2]
theorem nE{P:Program}{w:World}:∀{ks:List Key}{us:List Value},Vals (ks.map kV) us→ItemsAre (bA P w) ks us
 |[],_,r=>by rw[List.map_nil] at r;cases r;exact .nil
 |k::ks,_,r=>by
  rw[List.map_cons] at r
  cases r with
  |cons h t=>exact .cons (uE h) (nE t)
abbrev KT(H:Hp):List (List Key×V)→List (List Key×Addr×Value)→Prop:=Paired fun p q=>p.1=q.1∧H q.2.1=some (.tup (p.1.map kV))∧RelV p.2 q.2.2
theorem KT.val{H:Hp}{ay:List (List Key×V)}{xs:List (List Key×Addr×Value)}(r:KT H ay xs)(k:List Key):RelO (i2 ay k) ((atKey xs k).map (·.2)):=by
 induction r with
 |nil=>exact True.intro
 | @cons p q ps qs h t ih=>
   obtain⟨h1,_,h2⟩:=h
   by_cases e:p.1=k
   ·have e':q.1=k:=h1.symm.trans e
    have b:atKey (q::qs) k=some q.2:=by simp[atKey,List.find?_cons,e']
    rw[i4 e,b];exact h2
   ·have e':¬q.1=k:=fun z=>e (h1.trans z)
    have b:atKey (q::qs) k=atKey qs k:=by simp[atKey,List.find?_cons,e']
    rw[i3 e,b];exact ih
theorem KT.repl{H:Hp}{ay:List (List Key×V)}{xs:List (List Key×Addr×Value)}(r:KT H ay xs)(k:List Key){y:V}{u:Value}(ry:RelV y u):
 KT H (ay.map fun kv=>if kv.1=k then(kv.1,y) else kv) (xs.map (putAt k u)):=by
 induction r with
 |nil=>exact .nil
 | @cons p q ps qs h t ih=>
   rw[List.map_cons,List.map_cons]
   refine .cons ?_ ih
   obtain⟨h1,h2,h3⟩:=h
   unfold putAt
   by_cases e:p.1=k
   ·rw[if_pos e,if_pos (h1.symm.trans e)];exact⟨h1,h2,ry⟩
   ·rw[if_neg e,if_neg (fun z=>e (h1.trans z))];exact⟨h1,h2,h3⟩
theorem KT.put{H:Hp}{ay:List (List Key×V)}{xs:List (List Key×Addr×Value)}(r:KT H ay xs)(k:List Key){b:Addr}{y:V}{u:Value}(hb:H b=some (.tup (k.map kV)))(ry:RelV y u):
 KT H (putK ay k y) (storedH xs k b u):=by
 have e:(ay.any fun kv=>decide (kv.1=k))=(atKey xs k).isSome:=by
  rw[ml,(r.val k).isSome_eq,Option.isSome_map]
 unfold putK storedH
 rw[e]
 by_cases q:(atKey xs k).isSome=true
 ·rw[if_pos q,if_pos q];exact r.repl k ry
 ·rw[if_neg q,if_neg q];exact Paired.snoc r ⟨rfl,hb,ry⟩
theorem KT.keeps{H H':Hp}{ay:List (List Key×V)}{xs:List (List Key×Addr×Value)}(r:KT H ay xs)(ht:∀b ys,H b=some (.tup ys)→H' b=some (.tup ys)):KT H' ay xs:=
 Paired.mapP r fun _ _ z=>⟨z.1,ht _ _ z.2.1,z.2.2⟩
section
variable{P:Program}{w:World}{H:Hp}{h:Heap}{a:Addr}
theorem BJ{u:HO}(ok:HOk P w H h)(e:Rd H a u):ObjOk P w H h a u:=e.ok ok
theorem Bh{ay:List (Key×V)}(ok:HOk P w H h)(e:Rd H a (.dK ay)):ay.length≤sizeLine∧(a==sysModules)=false∧∃vs,KV ay vs∧h.DictOf (bA P w) a vs:=
 show ObjOk P w H h a (.dK ay) from BJ ok e
theorem Bg{ay:List (Key×V)}(ok:HOk P w H h)(e:H a=some (.dK ay)):ay.length≤sizeLine∧(a==sysModules)=false∧∃vs,KV ay vs∧h.DictOf (bA P w) a vs:=Bh ok (.inl e)
theorem oZ{ks:List Key}(ok:HOk P w H h)(e:H a=some (.tup (ks.map kV))):(tupleKind (bA P w)).is h ks a:=by
 obtain⟨_,aA,r,o,h1,h2,n,h3⟩:=(show ObjOk P w H h a (.tup (ks.map kV)) from ok a _ e)
 exact⟨o,aA.toArray,n,h1,h2,h3,by simpa using nE r⟩
theorem Bj{ay:List (List Key×V)}(ok:HOk P w H h)(e:Rd H a (.dT ay)):ay.length≤sizeLine∧(a==sysModules)=false∧
 ∃xs,KT H ay xs∧h.DictOfH (tupleKind (bA P w)) a xs:=by
 obtain⟨z,y,xs,r,o,es,ep,h1,h2,h3,h4,h5⟩:=(show ObjOk P w H h a (.dT ay) from BJ ok e)
 refine⟨z,y,xs,r,o,es,ep,h1,h2,h3,h4,fun x hx=>?_,h5⟩
 have all:∀{l:List (List Key×V)}{m:List (List Key×Addr×Value)},KT H l m→∀x∈m,(tupleKind (bA P w)).is h x.1 x.2.1:=by
  intro l m q
  induction q with
  |nil=>intro x hx;exact nomatch hx
  | @cons p q ps qs hq t ih=>
    intro x hx
    rcases List.mem_cons.mp hx with e | hx
    ·subst e
     exact oZ ok (by rw[←hq.1];exact hq.2.1)
    ·exact ih x hx
 exact all r x hx
theorem Bi{ay:List (List Key×V)}(ok:HOk P w H h)(e:H a=some (.dT ay)):ay.length≤sizeLine∧(a==sysModules)=false∧
 ∃xs,KT H ay xs∧h.DictOfH (tupleKind (bA P w)) a xs:=Bj ok (.inl e)
end
def vf(H:Hp)(a:Addr)(y:V)(r:Option V):Prop:=
 (∃ay k,Rd H a (.dK ay)∧y=kV k∧r=i2 ay k)∨∃ay k b,Rd H a (.dT ay)∧y= .ref b∧H b=some (.tup (k.map kV))∧r=i2 ay k
def DPut(H:Hp)(a:Addr)(y v:V)(H':Hp):Prop:=
 (∃ay k,H a=some (.dK ay)∧y=kV k∧ay.length<sizeLine∧H'=upd H a (.dK (putK ay k v)))∨
 ∃ay k b,H a=some (.dT ay)∧y= .ref b∧H b=some (.tup (k.map kV))∧ay.length<sizeLine∧H'=upd H a (.dT (putK ay k v))
theorem DPut.k{H:Hp}{a:Addr}{ay:List (Key×V)}{k:Key}{v:V}(e:H a=some (.dK ay))(hl:ay.length<sizeLine):DPut H a (kV k) v (upd H a (.dK (putK ay k v))):= .inl ⟨ay,k,e,rfl,hl,rfl⟩
theorem DPut.t{H:Hp}{a b:Addr}{ay:List (List Key×V)}{k:List Key}{v:V}(e:H a=some (.dT ay))(eb:H b=some (.tup (k.map kV)))(hl:ay.length<sizeLine):
 DPut H a (.ref b) v (upd H a (.dT (putK ay k v))):= .inr ⟨ay,k,b,e,rfl,eb,hl,rfl⟩
section
variable{X:Cx}{pins:List (Addr×Obj)}{σ:St}{H:Hp}{s:Shared}{a:Addr}{y v:V}{u r:Value}{o:Option V}{A:Around}{E:Value→Shared→Prop}
theorem Inv.big(I:Inv X pins σ H s):sysModules<s.heap.objs.size:=by
 have h:mainGlobals<s.heap.objs.size:=(I.mod.glob.keeps I.bk).lt
 exact Nat.lt_trans (by decide) h
theorem Ep{Q:Value→Shared→Prop}(hu:A.units+1<cLine)(I:Inv X pins σ H s)(g:vf H a y o)(ry:RelV y u)(h:∀s',Inv X pins σ H s'→Q (.bool o.isSome) s'):
 wpAny (model X.prog X.w) A (compareOp .In u (.ref a)) Q E s:=by
 rcases g with⟨ay,k,e,ey,l⟩ | ⟨ay,k,b,e,ey,eb,l⟩
 ·subst ey
  obtain⟨z,hd,vs,rel,dd⟩:=Bh I.hok e
  refine wpAny_in_of (uE ry) hd dd.mapOf ?_
  rw[←(rel.val k).isSome_eq,←l]
  exact h _ (I.tok _)
 ·subst ey
  cases (show u=Value.ref b from ry)
  obtain⟨z,hd,xs,rel,dd⟩:=Bj I.hok e
  refine wpAny_in_heap (tupleKind_room_in1 hu) (oZ I.hok eb) hd dd ?_
  have q:=(rel.val k).isSome_eq
  rw[Option.isSome_map] at q
  rw[←q,←l]
  exact h _ (I.tok _)
theorem kB{h':Heap}{t':Nat}{ob:HO}(I:Inv X pins σ H s)(mu:Ee (H a))(hs:Heap.SameBut a s.heap h')(he:∃q,h'.get? a=some q)(new:ObjOk X.prog X.w (upd H a ob) h' a ob):
 Inv X pins σ (upd H a ob) {s with heap:=h',toks:=t'}:=
 I.write (x:=a) (e:=a) mu (.inl rfl) (fun b q hb z=>(hs.2 b hb).trans z) he new
theorem xo{P:Program}{w:World}{H':Hp}{h':Heap}{ay:List (Key×V)}{vs:List (Key×Value)}(z:ay.length≤sizeLine)(hd:(a==sysModules)=false)(rel:KV ay vs)(dd:h'.DictOf (bA P w) a vs):
 ObjOk P w H' h' a (.dK ay):=⟨z,hd,vs,rel,dd⟩
theorem vB{H':Hp}{Q:Unit→Shared→Prop}(hu:A.units+1<cLine)(I:Inv X pins σ H s)(g:DPut H a y v H')(ry:RelV y u)(rv:RelV v r)(h:∀s',Inv X pins σ H' s'→Q () s'):
 wpAny (model X.prog X.w) A (setItem (.ref a) u r) Q E s:=by
 rcases g with⟨ay,k,e,ey,l,eH⟩ | ⟨ay,k,b,e,ey,eb,l,eH⟩
 ·subst ey eH
  obtain⟨z,hd,vs,rel,dd⟩:=Bg I.hok e
  have hz:vs.length≤sizeLine:=by rw[←rel.length];exact z
  have hl:(putK ay k v).length≤sizeLine:=by have:=d8 ay k v;omega
  refine wpAny_setItem_pairs (hsz:=hz) (uE ry) dd fun h' zL hs=>h _ ?_
  have he:∃q,h'.get? a=some q:=let ⟨q,_,_,hq,_⟩:=zL;⟨q,hq⟩
  exact kB I (by rw[e];exact True.intro) hs he (xo hl hd (rel.put k rv) zL)
 ·subst ey eH
  cases (show u=Value.ref b from ry)
  obtain⟨z,hd,xs,rel,dd⟩:=Bi I.hok e
  have hz:xs.length≤sizeLine:=by rw[←Paired.length rel];exact z
  have hl:(putK ay k v).length≤sizeLine:=by have:=d8 ay k v;omega
  refine wpAny_setItem_heap (hsz:=hz) (tupleKind_room_in1 hu) (oZ I.hok eb) dd fun h' zL hs=>h _ ?_
  obtain⟨q,es,ep,hq,h2,h3,h4,_,h5⟩:=zL
  refine kB I (by rw[e];exact True.intro) hs ⟨q,hq⟩ ⟨hl,hd,_,(rel.put k eb rv).keeps fun c ys ec=>?_,q,es,ep,hq,h2,h3,h4,h5⟩
  rw[aw (BC ec e (fun z=>nomatch z))]
  exact ec
end
section
variable{X:Cx}{pins:List (Addr×Obj)}{σ:St}{H:Hp}{s:Shared}{a:Addr}{ay:List (Key×V)}{k:Key}{u:Value}{A:Around}{E:Value→Shared→Prop}
end
def HZ(ty td:TE):TE:=fun σ H Q=>ty σ H fun y H1=>td σ H1 fun x H2=>∃a o,x= .ref a∧vf H2 a y o∧Q (.bl o.isSome) H2
def FL(td ty tv:TE):TS:=fun D σ H=>tv σ H fun v H1=>td σ H1 fun x H2=>ty σ H2 fun y H3=>∃a H4,x= .ref a∧DPut H3 a y v H4∧D.nx σ H4
section
variable{X:Cx}{o i e value:Expr}{pos pos' Ig:Pos}{td ty tv:TE}
theorem C3(hu:X.A.units+1<cLine)(hi:PE X i ty)(ho:PE X o td):PC X .In i o (HZ ty td):=by
 intro pins s σ H Q I h
 refine bI (hi pins s σ H _ I h) fun iv s1 ⟨y,H1,I1,ry,q1⟩=>bI (ho pins s1 σ H1 _ I1 q1) fun u s2 ⟨x,H2,I2,rx,a,ov,ex,g,q2⟩=>?_
 subst ex
 obtain rfl:u=Value.ref a:=rx
 exact Ep hu I2 g ry fun s3 I3=>⟨.bl ov.isSome,H2,I3,rfl,q2⟩
theorem AH(hu:X.A.units+1<cLine)(ho:PE X o td)(hi:PE X i ty)(hv:PE X value tv)(hs:swapsWith value (some (.Subscript o i pos')) pos.line X.env=pure false):
 PS X (.Assign [.Subscript o i pos'] value pos) (FL td ty tv):=by
 intro pins s σ H D I h
 refine wpAny_Assign_Subscript (bI (hv pins s σ H _ I h) fun r s1 ⟨v,H1,I1,rv,q1⟩=>bI (ho pins s1 σ H1 _ I1 q1) fun u s2 ⟨x,H2,I2,rx,q2⟩=>bI (hi pins s2 σ H2 _ I2 q2) fun iv s3 ⟨y,H3,I3,ry,a,H4,ex,g,q3⟩=>?_) hs
 subst ex
 obtain rfl:u=Value.ref a:=rx
 exact vB hu I3 g ry rv fun s4 I4=>⟨σ,H4,I4,q3⟩
end
theorem qw{P:Program}{w:World}{H:Hp}(h:Heap)(hb:sysModules<h.objs.size):ObjOk P w H (h.push {cls:= .type "dict",data:= .dict #[]}) h.objs.size (.dT []):=
 ⟨Nat.zero_le _,beq_eq_false_iff_ne.mpr (Ne.symm (Nat.ne_of_lt hb)),[], .nil,_,#[],0,Heap.get?_push_size _ rfl,⟨rfl,rfl,rfl⟩,rfl,rfl,List.nodup_nil⟩
def DM:TE:=fun _ H Q=>∀p,H p=none→Q (.ref p) (upd H p (.dT []))
section
variable{X:Cx}{pos:Pos}
theorem yE:PE X (.Dict [] [] pos) DM:=fun pins s σ H Q I h=>
 wpAny_Dict_empty ⟨.ref s.heap.objs.size,_,I.laid (a:=s.heap.objs.size) (o:= .dT []) (t':=s.toks) (fun _ _ q=>Heap.get?_push_of_some _ q) (Nat.le_refl _) (qw s.heap I.big),rfl,h _ (I.hok.fresh (Nat.le_refl _))⟩
end
def zj:List (TE×TE)→St→Hp→(List (V×V)→Hp→Prop)→Prop
 |[],_,H,Q=>Q [] H
 |(tk,tv)::r,σ,H,Q=>tk σ H fun x H1=>tv σ H1 fun y H2=>zj r σ H2 fun ps H3=>Q ((x,y)::ps) H3
abbrev VV:List (V×V)→List (Value×Value)→Prop:=Paired fun p q=>RelV p.1 q.1∧RelV p.2 q.2
def Gx(X:Cx)(pos:Pos)(keys:List (Option Expr))(values:List Expr)(Gr:List (TE×TE)):Prop:=
 ∀(pins:List (Addr×Obj)) (s:Shared) (σ:St) (H:Hp) (Q:List (V×V)→Hp→Prop),Inv X pins σ H s→zj Gr σ H Q→
  wpAny (model X.prog X.w) X.A (evalPairs (pairTrees keys values X.env pos)) (fun vs s'=>∃ps H',Inv X pins σ H' s'∧VV ps vs∧Q ps H') X.xe s
theorem AG{X:Cx}{pos:Pos}:Gx X pos [] [] []:=fun pins s σ H Q I h=>pairTrees_nil_walk ⟨[],H,I, .nil,h⟩
theorem yI{X:Cx}{pos:Pos}{k v:Expr}{ks:List (Option Expr)}{vs:List Expr}{tk tv:TE}{Gr:List (TE×TE)}(hk:PE X k tk)(hv:PE X v tv)(hr:Gx X pos ks vs Gr):
 Gx X pos (some k::ks) (v::vs) ((tk,tv)::Gr):=fun pins s σ H Q I h=>
 pairTrees_cons_walk (bI (hk pins s σ H _ I h) fun u s1 ⟨x,H1,I1,rx,q1⟩=>bI (hv pins s1 σ H1 _ I1 q1) fun w2 s2 ⟨y,H2,I2,ry,q2⟩=>
  bI (hr pins s2 σ H2 _ I2 q2) fun ws s3 ⟨ps,H3,I3,rel,q3⟩=>⟨(x,y)::ps,H3,I3, .cons ⟨rx,ry⟩ rel,q3⟩)
structure M1 (X:Cx) (o:Expr) (m:Str) (apos:Pos) (e:Expr) (a5:Pos):Prop where
 base:attributeBase o m X.env (eval o X.env)=eval o X.env
 JJ:((backTo a5 (starEach [e] X.env)).all (fun x=>!x.1)&&(backToKw a5 (keywordEach [] X.env)).all (fun x=>x.1.isSome)
  &&decide (([e]:List Expr).length+([]:List Keyword).length+(if ([]:List Keyword).isEmpty then 0 else 1)<30))=true
 line:(apos.endLine==a5.line)=true
 trees:backTo a5 (starEach [e] X.env)=[(false,eval e X.env)]
structure M2 (X:Cx) (o:Expr) (m:Str) (apos:Pos) (e f:Expr) (a5:Pos):Prop where
 base:attributeBase o m X.env (eval o X.env)=eval o X.env
 JJ:((backTo a5 (starEach [e,f] X.env)).all (fun x=>!x.1)&&(backToKw a5 (keywordEach [] X.env)).all (fun x=>x.1.isSome)
  &&decide (([e,f]:List Expr).length+([]:List Keyword).length+(if ([]:List Keyword).isEmpty then 0 else 1)<30))=true
 line:(apos.endLine==a5.line)=true
 trees:backTo a5 (starEach [e,f] X.env)=[(false,eval e X.env),(false,eval f X.env)]
section
variable{X:Cx}{pins:List (Addr×Obj)}{σ:St}{H:Hp}{s:Shared}{a:Addr}{y d:V}{u r:Value}{o:Option V}{A:Around}{E:Value→Shared→Prop}
end
section
variable{X:Cx}{o e f:Expr}{apos a5:Pos}{td ty tx:TE}
end
section
variable{X:Cx}{pins:List (Addr×Obj)}{σ:St}{H:Hp}{s:Shared}{a:Addr}{ay:List (Key×V)}{A:Around}{E:Value→Shared→Prop}
end
section
variable{X:Cx}{pins:List (Addr×Obj)}{σ:St}{H:Hp}{s:Shared}{a:Addr}{y:V}{u:Value}{A:Around}{E:Value→Shared→Prop}
end
end L2
namespace L3
open PySem PySem.Spec L2
open PyProof.Rows hiding St
inductive Rs (α:Type) where
 |ok (a:α) | ex (n:Nat)
def M(α:Type):=Option (Rs α)
def M.ret{α:Type}(a:α):M α:=some (.ok a)
def M.bind{α β:Type}(m:M α)(k:α→M β):M β:=match m with
 |none=>none
 |some (.ex n)=>some (.ex n)
 |some (.ok a)=>k a
def M.stuck{α:Type}:M α:=none
def M.raise{α:Type}(n:Nat):M α:=some (.ex n)
instance:Monad M where
 pure:=M.ret
 bind:=M.bind
@[simp] theorem ai{α β:Type}(a:α)(k:α→M β):(M.ret a>>=k)=k a:=rfl
@[simp] theorem BP{α β:Type}(a:α)(k:α→M β):((pure a:M α)>>=k)=k a:=rfl
@[simp] theorem BQ{α β:Type}(n:Nat)(k:α→M β):(M.raise n>>=k)=M.raise n:=rfl
@[simp] theorem BR{α β:Type}(k:α→M β):((M.stuck:M α)>>=k)=M.stuck:=rfl
theorem M.cs{α:Type}(m:M α):m=M.stuck∨(∃n,m=M.raise n)∨∃a,m=M.ret a:=by
 match m with
 |none=>exact .inl rfl
 |some (.ex n)=>exact .inr (.inl ⟨n,rfl⟩)
 |some (.ok a)=>exact .inr (.inr ⟨a,rfl⟩)
theorem dB{α:Type}{a b:α}(h:M.ret a=M.ret b):a=b:=by
 have h:some (Rs.ok a)=some (Rs.ok b):=h
 cases h
 rfl
theorem dZ{α:Type}{a:α}(h:M.stuck=M.ret a):False:=by
 have h:none=some (Rs.ok a):=h
 cases h
theorem yU{α:Type}{n:Nat}{a:α}(h:M.raise n=M.ret a):False:=by
 have h:some (Rs.ex n)=some (Rs.ok a):=h
 cases h
theorem eM{α β:Type}{m:M α}{k:α→M β}{r:β}(h:(m>>=k)=M.ret r):∃a,m=M.ret a∧k a=M.ret r:=by
 rcases m.cs with e | ⟨n,e⟩ | ⟨a,e⟩
 ·subst e;exact(dZ h).elim
 ·subst e;exact(yU h).elim
 ·subst e;exact⟨a,rfl,h⟩
def Eb(h:Heap)(ea D:Addr):Prop:=∃ox,h.get? ea=some ox∧ox.cls= .ref D
def Jy(ea D:Addr):HO:= .ext fun h=>Eb h ea D
inductive D where
 |non | bl (b:Bool) | int (i:Int) | str (x:Str) | raw (v:V) | exc (C:Addr) | scr (l:List Int) | tup (l:List D) | lst (l:List D)
 |dct (ks:List (List Key)) (l:List D) | dci (ks:List Key) (l:List D)
instance:Inhabited D:=⟨.non⟩
def lim:Nat:=4096
theorem cW:lim<sizeLine:=by rw[sizeLine_eq];decide
mutual
def Den(K:W.Frag)(F:Hp):D→V→Prop
 | .non,v=>v= .non
 | .bl b,v=>v= .bl b
 | .int i,v=>v= .int i
 | .str x,v=>v= .str x∧x.length≤lim
 | .raw u,v=>v=u
 | .exc C,v=>∃ea,v= .ref ea∧F ea=some (Jy ea C)
 | .scr ns,v=>∃a,v= .ref a∧SqL K F a (ns.map V.int)∧ns.length≤lim
 | .tup ds,v=>∃a vs,v= .ref a∧F a=some (.tup vs)∧DenL K F ds vs∧ds.length≤lim
 | .lst ds,v=>∃a vs,v= .ref a∧F a=some (.lst vs)∧DenL K F ds vs∧ds.length≤lim
 | .dct ks ds,v=>∃a ob vs,v= .ref a∧F a=some (.frz ob (.dT (ks.zip vs)))∧DenL K F ds vs∧ks.length=ds.length∧ds.length≤lim
 | .dci ks ds,v=>∃a ob vs,v= .ref a∧F a=some (.frz ob (.dK (ks.zip vs)))∧DenL K F ds vs∧ks.length=ds.length∧ds.length≤lim
def DenL(K:W.Frag)(F:Hp):List D→List V→Prop
 |[],vs=>vs=[]
 |d::ds,vs=>∃v r,vs=v::r∧Den K F d v∧DenL K F ds r
end
theorem Same.rd{H H':Hp}{a:Addr}{u:HO}(e:Same H H')(h:Rd H a u):Rd H' a u:=by
 rcases h with h | ⟨o,h⟩
 ·exact .inl (e _ _ h)
 ·exact .inr ⟨o,e _ _ h⟩
theorem Same.tup{K:W.Frag}{H H':Hp}{a:Addr}{xs:List V}(e:Same H H')(h:SqT K H a xs):SqT K H' a xs:=by
 rcases h with h | h
 ·exact .inl (Same.rd e h)
 ·exact .inr h
section
variable{K:W.Frag}{F F':Hp}
mutual
theorem Den.mono(e:Same F F'):∀{d:D}{v:V},Den K F d v→Den K F' d v
 | .non,_,h=>h
 | .bl _,_,h=>h
 | .int _,_,h=>h
 | .str _,_,h=>h
 | .raw _,_,h=>h
 | .exc _,_,⟨a,h1,h2⟩=>⟨a,h1,e _ _ h2⟩
 | .scr _,_,⟨a,h1,h2,h3⟩=>⟨a,h1,Same.seq e h2,h3⟩
 | .tup _,_,⟨a,vs,h1,h2,h3,h4⟩=>⟨a,vs,h1,e _ _ h2,DenL.mono e h3,h4⟩
 | .lst _,_,⟨a,vs,h1,h2,h3,h4⟩=>⟨a,vs,h1,e _ _ h2,DenL.mono e h3,h4⟩
 | .dct _ _,_,⟨a,ob,vs,h1,h2,h3,h4⟩=>⟨a,ob,vs,h1,e _ _ h2,DenL.mono e h3,h4⟩
 | .dci _ _,_,⟨a,ob,vs,h1,h2,h3,h4⟩=>⟨a,ob,vs,h1,e _ _ h2,DenL.mono e h3,h4⟩
theorem DenL.mono(e:Same F F'):∀{ds:List D}{vs:List V},DenL K F ds vs→DenL K F' ds vs
 |[],_,h=>h
 |_::_,_,⟨v,r,h1,h2,h3⟩=>⟨v,r,h1,Den.mono e h2,DenL.mono e h3⟩
end
theorem DenL.nil:DenL K F [] []:=rfl
theorem DenL.cons{d:D}{v:V}{ds:List D}{vs:List V}(h:Den K F d v)(r:DenL K F ds vs):DenL K F (d::ds) (v::vs):=⟨v,vs,rfl,h,r⟩
theorem DenL.len:∀{ds:List D}{vs:List V},DenL K F ds vs→ds.length=vs.length
 |[],_,h=>by cases (show _=_ from h);rfl
 |_::ds,_,⟨v,r,h1,_,h3⟩=>by subst h1;rw[List.length_cons,List.length_cons,DenL.len h3]
theorem DenL.get:∀{ds:List D}{vs:List V}{i:Nat}{d:D},DenL K F ds vs→ds[i]? =some d→∃v,vs[i]? =some v∧Den K F d v
 |[],_,_,_,_,e=>by simp at e
 |d::ds,_,0,_,⟨v,r,h1,h2,h3⟩,e=>by subst h1;simp at e;subst e;exact⟨v,rfl,h2⟩
 |d::ds,_,i+1,_,⟨v,r,h1,h2,h3⟩,e=>by
  subst h1
  obtain⟨w,e1,e2⟩:=DenL.get (i:=i) h3 (by simpa using e)
  exact⟨w,by simpa using e1,e2⟩
theorem DenL.at:∀{ds:List D}{vs:List V}{i:Nat}{v:V},DenL K F ds vs→vs[i]? =some v→∃d,ds[i]? =some d∧Den K F d v
 |[],_,_,_,h,e=>by cases (show _=_ from h);simp at e
 |d::ds,_,0,_,⟨v,r,h1,h2,h3⟩,e=>by subst h1;simp at e;subst e;exact⟨d,rfl,h2⟩
 |d::ds,_,i+1,_,⟨v,r,h1,h2,h3⟩,e=>by
  subst h1
  obtain⟨w,e1,e2⟩:=DenL.at (i:=i) h3 (by simpa using e)
  exact⟨w,by simpa using e1,e2⟩
theorem DenL.append:∀{ds es:List D}{vs ws:List V},DenL K F ds vs→DenL K F es ws→DenL K F (ds++es) (vs++ws)
 |[],_,_,_,h,h'=>by cases (show _=_ from h);exact h'
 |d::ds,_,_,_,⟨v,r,h1,h2,h3⟩,h'=>by subst h1;exact⟨v,_,rfl,h2,DenL.append h3 h'⟩
theorem DenL.take:∀{ds:List D}{vs:List V}(n:Nat),DenL K F ds vs→DenL K F (ds.take n) (vs.take n)
 |_,_,0,_=>by simp[List.take];rfl
 |[],_,_+1,h=>by cases (show _=_ from h);rfl
 |d::ds,_,n+1,⟨v,r,h1,h2,h3⟩=>by subst h1;exact⟨v,_,rfl,h2,DenL.take n h3⟩
theorem DenL.drop:∀{ds:List D}{vs:List V}(n:Nat),DenL K F ds vs→DenL K F (ds.drop n) (vs.drop n)
 |_,_,0,h=>by simpa using h
 |[],_,_+1,h=>by cases (show _=_ from h);rfl
 |d::ds,_,n+1,⟨v,r,h1,h2,h3⟩=>by subst h1;exact DenL.drop n h3
theorem DenL.reverse:∀{ds:List D}{vs:List V},DenL K F ds vs→DenL K F ds.reverse vs.reverse
 |[],_,h=>by cases (show _=_ from h);rfl
 |d::ds,_,⟨v,r,h1,h2,h3⟩=>by
  subst h1
  rw[List.reverse_cons,List.reverse_cons]
  exact DenL.append (DenL.reverse h3) (.cons h2 .nil)
theorem DenL.ints(ns:List Int):DenL K F (ns.map D.int) (ns.map V.int):=by
 induction ns with
 |nil=>rfl
 |cons n ns ih=>exact .cons rfl ih
end
structure Ext (F H F' H':Hp):Prop where
 hh:Same H H'
 ff:Same F F'
 fh:Same F' H'
 new:∀a,H a≠none→F' a=F a∨∃ts,H a=some (.tup ts)
theorem Ext.old{F H F' H':Hp}(e:Ext F H F' H'){a:Addr}{o:HO}(h:H a=some o)(hn:∀ts,o≠ .tup ts):F' a=F a:=by
 rcases e.new a (by rw[h];exact fun z=>nomatch z) with q | ⟨ts,q⟩
 ·exact q
 ·rw[h] at q;cases q;exact absurd rfl (hn ts)
theorem Ext.refl{F H:Hp}(h:Same F H):Ext F H F H:=⟨Same.refl _,Same.refl _,h,fun _ _=> .inl rfl⟩
theorem Ext.trans{F H F' H' F'' H'':Hp}(a:Ext F H F' H')(b:Ext F' H' F'' H''):Ext F H F'' H'':=
 ⟨a.hh.trans b.hh,a.ff.trans b.ff,b.fh,fun c hc=>by
  have:H' c≠none:=by
   cases q:H c with
   |none=>exact absurd q hc
   |some o=>rw[a.hh c o q];exact fun z=>nomatch z
  rcases a.new c hc with p | p
  ·rcases b.new c this with q | ⟨ts,q⟩
   ·exact .inl (q.trans p)
   ·cases z:H c with
    |none=>exact absurd z hc
    |some o=>
     rw[a.hh c o z] at q
     exact .inr ⟨ts,q⟩
  ·exact .inr p⟩
theorem Ext.lay{F H:Hp}{a:Addr}{o:HO}(h:Same F H)(n:H a=none):Ext F H (upd F a o) (upd H a o):=by
 have nf:F a=none:=Same.free h n
 refine⟨fun b u e=>?_,fun b u e=>?_,fun b u e=>?_,fun b hb=>?_⟩
 ·rw[aw (bz e n)];exact e
 ·rw[aw (bz e nf)];exact e
 ·by_cases q:b=a
  ·subst q;rw[aD] at e⊢;exact e
  ·rw[aw q] at e⊢;exact h b u e
 ·exact .inl (aw fun z=>hb (by rw[z];exact n))
theorem Ext.free{F H:Hp}{a:Addr}{o:HO}(h:Same F H)(n:H a=none):Ext F H F (upd H a o):=
 ⟨fun b u e=>by rw[aw (bz e n)];exact e,Same.refl _,fun b u e=>by rw[aw (bz (h b u e) n)];exact h b u e,fun _ _=> .inl rfl⟩
theorem Ext.tup{F H:Hp}{a:Addr}{ts:List V}(h:Same F H)(e:H a=some (.tup ts)):Ext F H (upd F a (.tup ts)) H:=by
 refine⟨Same.refl _,fun b u q=>?_,fun b u q=>?_,fun b hb=>?_⟩
 ·by_cases z:b=a
  ·subst z;rw[aD,←e];exact h b u q
  ·rw[aw z];exact q
 ·by_cases z:b=a
  ·subst z;rw[aD] at q;rw[e];exact q
  ·rw[aw z] at q;exact h b u q
 ·by_cases z:b=a
  ·subst z;exact .inr ⟨ts,e⟩
  ·exact .inl (aw z)
def WP(K:W.Frag)(Xw:Nat→Hp→Prop)(F H:Hp)(m:M D)(Q:VK):Prop:=
 match m with
 |none=>False
 |some (.ok d)=>∀v H' F',Ext F H F' H'→Den K F' d v→Q v H'
 |some (.ex n)=>∀F' H',Ext F H F' H'→Xw n H'
def WPL(K:W.Frag)(Xw:Nat→Hp→Prop)(F H:Hp)(m:M (List D))(Q:List V→Hp→Prop):Prop:=
 match m with
 |none=>False
 |some (.ok ds)=>∀vs H' F',Ext F H F' H'→DenL K F' ds vs→Q vs H'
 |some (.ex n)=>∀F' H',Ext F H F' H'→Xw n H'
def WPB(Xw:Nat→Hp→Prop)(F H:Hp)(m:M Bool)(Q:Bool→Hp→Prop):Prop:=
 match m with
 |none=>False
 |some (.ok b)=>∀H' F',Ext F H F' H'→Q b H'
 |some (.ex n)=>∀F' H',Ext F H F' H'→Xw n H'
section
variable{K:W.Frag}{Xw:Nat→Hp→Prop}{F F' H H':Hp}{Q:VK}
theorem WP.ext{m:M D}(e:Ext F H F' H')(h:WP K Xw F H m Q):WP K Xw F' H' m Q:=by
 match m,h with
 |none,h=>exact h
 |some (.ok d),h=>exact fun v H2 F2 e2 q=>h v H2 F2 (e.trans e2) q
 |some (.ex n),h=>exact fun F2 H2 e2=>h F2 H2 (e.trans e2)
theorem WPL.ext{m:M (List D)}{Q:List V→Hp→Prop}(e:Ext F H F' H')(h:WPL K Xw F H m Q):WPL K Xw F' H' m Q:=by
 match m,h with
 |none,h=>exact h
 |some (.ok d),h=>exact fun v H2 F2 e2 q=>h v H2 F2 (e.trans e2) q
 |some (.ex n),h=>exact fun F2 H2 e2=>h F2 H2 (e.trans e2)
theorem WPB.ext{m:M Bool}{Q:Bool→Hp→Prop}(e:Ext F H F' H')(h:WPB Xw F H m Q):WPB Xw F' H' m Q:=by
 match m,h with
 |none,h=>exact h
 |some (.ok d),h=>exact fun H2 F2 e2=>h H2 F2 (e.trans e2)
 |some (.ex n),h=>exact fun F2 H2 e2=>h F2 H2 (e.trans e2)
theorem WP.fin{d:D}{v:V}(h:WP K Xw F H (M.ret d) Q)(e:Ext F H F' H')(q:Den K F' d v):Q v H':=h v H' F' e q
theorem WP.now{d:D}{v:V}(h:WP K Xw F H (M.ret d) Q)(s:Same F H)(q:Den K F d v):Q v H:=h v H F (Ext.refl s) q
theorem WP.bind{m:M D}{k:D→M D}(h:WP K Xw F H (m>>=k) Q):WP K Xw F H m fun v H1=>∃F1 d,Ext F H F1 H1∧Den K F1 d v∧WP K Xw F1 H1 (k d) Q:=by
 match m,h with
 |none,h=>exact h
 |some (.ok d),h=>exact fun v H2 F2 e2 q=>⟨F2,d,e2,q,WP.ext e2 (show WP K Xw F H (k d) Q from h)⟩
 |some (.ex n),h=>exact h
theorem WP.bindL{m:M (List D)}{k:List D→M D}(h:WP K Xw F H (m>>=k) Q):WPL K Xw F H m fun vs H1=>∃F1 ds,Ext F H F1 H1∧DenL K F1 ds vs∧WP K Xw F1 H1 (k ds) Q:=by
 match m,h with
 |none,h=>exact h
 |some (.ok d),h=>exact fun v H2 F2 e2 q=>⟨F2,d,e2,q,WP.ext e2 (show WP K Xw F H (k d) Q from h)⟩
 |some (.ex n),h=>exact h
theorem WP.bindB{m:M Bool}{k:Bool→M D}(h:WP K Xw F H (m>>=k) Q):WPB Xw F H m fun b H1=>∃F1,Ext F H F1 H1∧WP K Xw F1 H1 (k b) Q:=by
 match m,h with
 |none,h=>exact h
 |some (.ok d),h=>exact fun H2 F2 e2=>⟨F2,e2,WP.ext e2 (show WP K Xw F H (k d) Q from h)⟩
 |some (.ex n),h=>exact h
theorem WPB.bind{m:M D}{k:D→M Bool}{Q:Bool→Hp→Prop}(h:WPB Xw F H (m>>=k) Q):WP K Xw F H m fun v H1=>∃F1 d,Ext F H F1 H1∧Den K F1 d v∧WPB Xw F1 H1 (k d) Q:=by
 match m,h with
 |none,h=>exact h
 |some (.ok d),h=>exact fun v H2 F2 e2 q=>⟨F2,d,e2,q,WPB.ext e2 (show WPB Xw F H (k d) Q from h)⟩
 |some (.ex n),h=>exact h
theorem WPB.bindB{m:M Bool}{k:Bool→M Bool}{Q:Bool→Hp→Prop}(h:WPB Xw F H (m>>=k) Q):WPB Xw F H m fun b H1=>∃F1,Ext F H F1 H1∧WPB Xw F1 H1 (k b) Q:=by
 match m,h with
 |none,h=>exact h
 |some (.ok d),h=>exact fun H2 F2 e2=>⟨F2,e2,WPB.ext e2 (show WPB Xw F H (k d) Q from h)⟩
 |some (.ex n),h=>exact h
theorem WPL.bind{m:M D}{k:D→M (List D)}{Q:List V→Hp→Prop}(h:WPL K Xw F H (m>>=k) Q):WP K Xw F H m fun v H1=>∃F1 d,Ext F H F1 H1∧Den K F1 d v∧WPL K Xw F1 H1 (k d) Q:=by
 match m,h with
 |none,h=>exact h
 |some (.ok d),h=>exact fun v H2 F2 e2 q=>⟨F2,d,e2,q,WPL.ext e2 (show WPL K Xw F H (k d) Q from h)⟩
 |some (.ex n),h=>exact h
theorem WPL.bindL{m:M (List D)}{k:List D→M (List D)}{Q:List V→Hp→Prop}(h:WPL K Xw F H (m>>=k) Q):WPL K Xw F H m fun vs H1=>∃F1 ds,Ext F H F1 H1∧DenL K F1 ds vs∧WPL K Xw F1 H1 (k ds) Q:=by
 match m,h with
 |none,h=>exact h
 |some (.ok d),h=>exact fun v H2 F2 e2 q=>⟨F2,d,e2,q,WPL.ext e2 (show WPL K Xw F H (k d) Q from h)⟩
 |some (.ex n),h=>exact h
theorem WP.mono{m:M D}{Q':VK}(h:WP K Xw F H m Q)(k:∀v H',Q v H'→Q' v H'):WP K Xw F H m Q':=by
 match m,h with
 |none,h=>exact h
 |some (.ok d),h=>exact fun v H2 F2 e2 q=>k _ _ (h v H2 F2 e2 q)
 |some (.ex n),h=>exact h
theorem WPL.mono{m:M (List D)}{Q Q':List V→Hp→Prop}(h:WPL K Xw F H m Q)(k:∀v H',Q v H'→Q' v H'):WPL K Xw F H m Q':=by
 match m,h with
 |none,h=>exact h
 |some (.ok d),h=>exact fun v H2 F2 e2 q=>k _ _ (h v H2 F2 e2 q)
 |some (.ex n),h=>exact h
theorem WPB.mono{m:M Bool}{Q Q':Bool→Hp→Prop}(h:WPB Xw F H m Q)(k:∀v H',Q v H'→Q' v H'):WPB Xw F H m Q':=by
 match m,h with
 |none,h=>exact h
 |some (.ok d),h=>exact fun H2 F2 e2=>k _ _ (h H2 F2 e2)
 |some (.ex n),h=>exact h
end
inductive C where
 |lst (l:List D) | dct (ks:List (List Key)) (l:List D) | dci (ks:List Key) (l:List D)
def C.d:C→D
 | .lst ds=> .lst ds
 | .dct ks ds=> .dct ks ds
 | .dci ks ds=> .dci ks ds
inductive Sl where
 |fz (d:D) | ow (c:C)
abbrev aY:=List (Option Sl)
def DenC(K:W.Frag)(F:Hp):C→HO→Prop
 | .lst ds,o=>∃vs,o= .lst vs∧DenL K F ds vs∧ds.length≤lim
 | .dct ks ds,o=>∃vs,o= .dT (ks.zip vs)∧DenL K F ds vs∧ks.length=ds.length∧ds.length≤lim
 | .dci ks ds,o=>∃vs,o= .dK (ks.zip vs)∧DenL K F ds vs∧ks.length=ds.length∧ds.length≤lim
theorem DenC.mono{K:W.Frag}{F F':Hp}(e:Same F F'):∀{c:C}{o:HO},DenC K F c o→DenC K F' c o
 | .lst _,_,⟨vs,h1,h2,h3⟩=>⟨vs,h1,DenL.mono e h2,h3⟩
 | .dct _ _,_,⟨vs,h1,h2,h3⟩=>⟨vs,h1,DenL.mono e h2,h3⟩
 | .dci _ _,_,⟨vs,h1,h2,h3⟩=>⟨vs,h1,DenL.mono e h2,h3⟩
theorem DenC.notup{K:W.Frag}{F:Hp}:∀{c:C}{o:HO},DenC K F c o→∀ts,o≠ .tup ts
 | .lst _,_,⟨_,h1,_⟩,ts,z=>by rw[h1] at z;cases z
 | .dct _ _,_,⟨_,h1,_⟩,ts,z=>by rw[h1] at z;cases z
 | .dci _ _,_,⟨_,h1,_⟩,ts,z=>by rw[h1] at z;cases z
def oQ(ob:Obj):HO→HO
 | .dT ay=> .frz ob (.dT ay)
 | .dK ay=> .frz ob (.dK ay)
 |o=>o
theorem DenC.den{K:W.Frag}{F F':Hp}{a:Addr}{ob:Obj}:∀{c:C}{o:HO},DenC K F c o→Same F F'→F' a=some (oQ ob o)→Den K F' c.d (.ref a)
 | .lst _,_,⟨vs,h1,h2,h3⟩,e,q=>by subst h1;exact⟨a,vs,rfl,q,DenL.mono e h2,h3⟩
 | .dct _ _,_,⟨vs,h1,h2,h3⟩,e,q=>by subst h1;exact⟨a,ob,vs,rfl,q,DenL.mono e h2,h3⟩
 | .dci _ _,_,⟨vs,h1,h2,h3⟩,e,q=>by subst h1;exact⟨a,ob,vs,rfl,q,DenL.mono e h2,h3⟩
def DenO(K:W.Frag)(F H:Hp):Sl→V→Prop
 | .fz d,v=>Den K F d v
 | .ow c,v=>∃a o,v= .ref a∧H a=some o∧F a=none∧DenC K F c o
structure StE (K:W.Frag) (F H:Hp) (σ:St) (ρ:aY):Prop where
 fh:Same F H
 den:∀(i:Nat) (sl:Sl),ρ[i]? =some (some sl)→∃v,σ[i]? =some (some v)∧DenO K F H sl v
theorem DenO.ext{K:W.Frag}{F H F' H':Hp}(e:Ext F H F' H'):∀{sl:Sl}{v:V},DenO K F H sl v→DenO K F' H' sl v
 | .fz _,_,h=>Den.mono e.ff h
 | .ow _,_,⟨a,o,h1,h2,h3,h4⟩=>⟨a,o,h1,e.hh _ _ h2,by rw[e.old h2 h4.notup];exact h3,DenC.mono e.ff h4⟩
theorem StE.ext{K:W.Frag}{F H F' H':Hp}{σ:St}{ρ:aY}(s:StE K F H σ ρ)(e:Ext F H F' H'):StE K F' H' σ ρ:=
 ⟨e.fh,fun i sl q=>let ⟨v,h1,h2⟩:=s.den i sl q;⟨v,h1,h2.ext e⟩⟩
abbrev DE:=aY→M D
abbrev DT:=aY→M Bool
abbrev DA:=aY→M (List D)
def tD(K:W.Frag)(Xw:Nat→Hp→Prop)(δ:DE):TE:=fun σ H Q=>∃F ρ,StE K F H σ ρ∧WP K Xw F H (δ ρ) Q
def H0(K:W.Frag)(Xw:Nat→Hp→Prop)(δ:DT):TT:=fun σ H Q=>∃F ρ,StE K F H σ ρ∧WPB Xw F H (δ ρ) Q
def Js(K:W.Frag)(Xw:Nat→Hp→Prop)(δ:DA):TA:=fun σ H Q=>∃F ρ,StE K F H σ ρ∧WPL K Xw F H (δ ρ) Q
def PD(X:Cx)(Xw:Nat→Hp→Prop)(e:Expr)(δ:DE):Prop:=PE X e (tD X.K Xw δ)
def m7(X:Cx)(Xw:Nat→Hp→Prop)(e:Expr)(δ:DT):Prop:=PT X e (H0 X.K Xw δ)
def ko(X:Cx)(Xw:Nat→Hp→Prop)(es:List Expr)(δ:DA):Prop:=PA X es (Js X.K Xw δ)
theorem PE.weak{X:Cx}{e:Expr}{t t':TE}(h:PE X e t)(k:∀σ H Q,t' σ H Q→t σ H Q):PE X e t':=fun pins s σ H Q I w=>h pins s σ H Q I (k σ H Q w)
theorem PT.weak{X:Cx}{e:Expr}{t t':TT}(h:PT X e t)(k:∀σ H Q,t' σ H Q→t σ H Q):PT X e t':=fun pins s σ H Q I w=>h pins s σ H Q I (k σ H Q w)
theorem PA.weak{X:Cx}{e:List Expr}{t t':TA}(h:PA X e t)(k:∀σ H Q,t' σ H Q→t σ H Q):PA X e t':=fun pos pins s σ H Q I w=>h pos pins s σ H Q I (k σ H Q w)
def dV(i:Nat):DE:=fun ρ=>match ρ[i]? with
 |some (some (.fz d))=>M.ret d
 |_=>M.stuck
def dC(d:D):DE:=fun _=>M.ret d
def d1(g:D→M D)(a:DE):DE:=fun ρ=>a ρ>>=g
def d2(g:D→D→M D)(a b:DE):DE:=fun ρ=>a ρ>>=fun x=>b ρ>>=fun y=>g x y
def aN:DA:=fun _=>M.ret []
def aC(a:DE)(r:DA):DA:=fun ρ=>a ρ>>=fun x=>r ρ>>=fun xs=>M.ret (x::xs)
def dA(g:List D→M D)(a:DA):DE:=fun ρ=>a ρ>>=g
def wM:D→M Bool
 | .bl b=>M.ret b
 |_=>M.stuck
def b_(a:DE):DT:=fun ρ=>a ρ>>=wM
def vA(a b:DT):DT:=fun ρ=>a ρ>>=fun x=>if x then b ρ else M.ret false
def jK(a b:DT):DT:=fun ρ=>a ρ>>=fun x=>if x then M.ret true else b ρ
def b5(a:DT):DT:=fun ρ=>a ρ>>=fun x=>M.ret (!x)
def Bd(c:DT)(a b:DE):DE:=fun ρ=>c ρ>>=fun x=>if x then a ρ else b ρ
def dI(a b:DE):DE:=fun ρ=>a ρ>>=fun x=>wM x>>=fun c=>if c then b ρ else M.ret (.bl false)
def Be(a:DE):DE:=fun ρ=>a ρ>>=fun x=>wM x>>=fun c=>M.ret (.bl (!c))
section
variable{X:Cx}{Xw:Nat→Hp→Prop}{a b:Expr}{δa δb:DE}{pos:Pos}
theorem ab{i:Nat}{x:Str}(h:PE X (.Name x pos) (mX i)):PD X Xw (.Name x pos) (dV i):=PE.weak h fun σ H Q ⟨F,ρ,s,w⟩=>by
 unfold dV at w
 split at w
 ·rename_i d e
  obtain⟨v,h1,h2⟩:=s.den i _ e
  exact⟨v,h1,WP.now w s.fh h2⟩
 ·exact w.elim
theorem fY{e:Expr}{d:D}{v:V}(h:PE X e (tC v))(hd:∀F,Den X.K F d v):PD X Xw e (dC d):=PE.weak h fun σ H Q ⟨F,ρ,s,w⟩=>WP.now w s.fh (hd F)
theorem au{i j}:PD X Xw (.Constant (.int i) j pos) (dC (.int i)):=fY De fun _=>rfl
theorem cE{i j}:PD X Xw (.Constant (.bool i) j pos) (dC (.bl i)):=fY Ft fun _=>rfl
theorem dW{x j}(h:x.length≤lim:=by decide):PD X Xw (.Constant (.str x) j pos) (dC (.str x)):=fY Di fun _=>⟨rfl,h⟩
def se(K:W.Frag)(r:R2)(g:D→D→M D):Prop:=∀(Xw:Nat→Hp→Prop) (F H:Hp) (x y:V) (dx dy:D) (Q:VK),Same F H→Den K F dx x→Den K F dy y→WP K Xw F H (g dx dy) Q→r x y H Q
theorem p5{r:R2}{g:D→D→M D}(hg:se X.K r g):∀σ H Q,tD X.K Xw (d2 g δa δb) σ H Q→FT r (tD X.K Xw δa) (tD X.K Xw δb) σ H Q:=fun σ H Q ⟨F,ρ,s,w⟩=>by
 refine⟨F,ρ,s,WP.mono (WP.bind w) fun v H1 ⟨F1,d,e1,q1,w1⟩=>?_⟩
 refine⟨F1,ρ,s.ext e1,WP.mono (WP.bind w1) fun u H2 ⟨F2,d',e2,q2,w2⟩=>?_⟩
 exact hg Xw F2 H2 v u d d' Q e2.fh (Den.mono e2.ff q1) q2 w2
theorem nZ{op:Operator}{r:R2}{g:D→D→M D}(ho:OpR X (binaryOp op) r)(hg:se X.K r g)(ha:PD X Xw a δa)(hb:PD X Xw b δb):PD X Xw (.BinOp a op b pos) (d2 g δa δb):=
 PE.weak (Fv ho ha hb) (p5 hg)
theorem yw{op:CmpOp}{r:R2}{g:D→D→M D}(ho:OpR X (compareOp op) r)(hg:se X.K r g)(ha:PD X Xw a δa)(hb:PD X Xw b δb)(hm:behindInMarks op b=false:=by first | exact yg _ | rfl):PD X Xw (.Compare a [op] [b] pos) (d2 g δa δb):=
 PE.weak (Az ho ha hb hm) (p5 hg)
theorem e_{op:CmpOp}{r:R2}{g:D→D→M D}(ho:OpR X (compareOp op) r)(hg:se X.K r g)(ha:PD X Xw a δa)(hb:PD X Xw b δb)(hm:behindInMarks op b=false:=by first | exact yg _ | rfl):m7 X Xw (.Compare a [op] [b] pos) (b_ (d2 g δa δb)):=
 PT.weak (AL ho ha hb hm) fun σ H Q ⟨F,ρ,s,w⟩=>by
  refine p5 hg σ H _ ⟨F,ρ,s,WP.mono (WPB.bind w) fun v H1 ⟨F1,d,e1,q1,w1⟩=>?_⟩
  cases d with
  |bl k=>exact⟨k,q1,w1 _ _ (Ext.refl e1.fh)⟩
  |_=>exact w1.elim
theorem uW{r:R2}{g:D→D→M D}(hr:Ed X r)(hg:se X.K r g)(ha:PD X Xw a δa)(hb:PD X Xw b δb)(hs:gr b:=by intro _ _;rfl):PD X Xw (.Subscript a b pos) (d2 g δa δb):=
 PE.weak (Fu hr ha hb hs) (p5 hg)
theorem ae:ko X Xw [] aN:=PA.weak pA fun σ H Q ⟨F,ρ,s,w⟩=>w [] H F (Ext.refl s.fh) rfl
theorem aa{es:List Expr}{δs:DA}(ha:PD X Xw a δa)(hr:ko X Xw es δs)(hs:starEach (a::es) X.env=(false,eval a X.env)::starEach es X.env:=by rfl):ko X Xw (a::es) (aC δa δs):=
 PA.weak (pz ha hr hs) fun σ H Q ⟨F,ρ,s,w⟩=>by
  refine⟨F,ρ,s,WP.mono (WPL.bind w) fun v H1 ⟨F1,d,e1,q1,w1⟩=>?_⟩
  refine⟨F1,ρ,s.ext e1,WPL.mono (WPL.bindL w1) fun vs H2 ⟨F2,ds,e2,q2,w2⟩=>?_⟩
  exact w2 _ _ _ (Ext.refl e2.fh) (.cons (Den.mono e2.ff q1) q2)
def df(ds:List D):M D:=if ds.length≤lim then M.ret (.tup ds) else M.stuck
def dr(ds:List D):M D:=if ds.length≤lim then M.ret (.lst ds) else M.stuck
theorem sV{ds:List D}{f:List D→D}{Q:VK}{F H:Hp}(w:WP X.K Xw F H (if ds.length≤lim then M.ret (f ds) else M.stuck) Q):ds.length≤lim∧WP X.K Xw F H (M.ret (f ds)) Q:=by
 split at w
 ·rename_i h;exact⟨h,w⟩
 ·exact w.elim
theorem f6{x1}{es:List Expr}{δs:DA}(h:ko X Xw es δs):PD X Xw (.Tuple es x1 pos) (dA df δs):=PE.weak (Dj h) fun σ H Q ⟨F,ρ,s,w⟩=>by
 refine⟨F,ρ,s,WPL.mono (WP.bindL w) fun vs H1 ⟨F1,ds,e1,q1,w1⟩=>?_⟩
 obtain⟨hl,w1⟩:=sV (X:=X) w1
 have hv:=q1.len
 refine⟨by have:=cW;omega,fun p hp=>WP.fin w1 (Ext.lay e1.fh hp) ⟨p,vs,rfl,aD,DenL.mono (Ext.lay e1.fh hp).ff q1,hl⟩⟩
theorem jm{es:List Expr}{δs:DA}(h:ko X Xw es δs):PD X Xw (.List es pos) (dA dr δs):=PE.weak (yG h) fun σ H Q ⟨F,ρ,s,w⟩=>by
 refine⟨F,ρ,s,WPL.mono (WP.bindL w) fun vs H1 ⟨F1,ds,e1,q1,w1⟩=>?_⟩
 obtain⟨hl,w1⟩:=sV (X:=X) w1
 have hv:=q1.len
 refine⟨by have:=cW;omega,fun p hp=>WP.fin w1 (Ext.lay e1.fh hp) ⟨p,vs,rfl,aD,DenL.mono (Ext.lay e1.fh hp).ff q1,hl⟩⟩
end
def ItD(K:W.Frag)(F:Hp)(J:It)(ds:List D):Prop:=∀(F' H':Hp) (i:Nat),Same F F'→Same F' H'→
 (∀d,ds[i]? =some d→J.go i H'∧∀x H'',J.yld i H' x H''→∃F'',Ext F' H' F'' H''∧Den K F'' d x)∧(ds.length≤i→J.stop i H')
theorem ItD.mono{K:W.Frag}{F F1:Hp}{J:It}{ds:List D}(h:ItD K F J ds)(e:Same F F1):ItD K F1 J ds:=fun F' H' i s1 s2=>h F' H' i (e.trans s1) s2
def WPI(K:W.Frag)(Xw:Nat→Hp→Prop)(F H:Hp)(m:M (List D))(R:It→Hp→Prop):Prop:=
 match m with
 |none=>False
 |some (.ok ds)=>∀J H' F',Ext F H F' H'→ItD K F' J ds→R J H'
 |some (.ex n)=>∀F' H',Ext F H F' H'→Xw n H'
def KR(K:W.Frag)(Xw:Nat→Hp→Prop)(δ:DA):TI:=fun σ H R=>∃F ρ,StE K F H σ ρ∧WPI K Xw F H (δ ρ) R
def t_(X:Cx)(Xw:Nat→Hp→Prop)(tg iter:Expr)(δ:DA):Prop:=PI X tg iter (KR X.K Xw δ)
theorem PI.weak{X:Cx}{tg e:Expr}{t t':TI}(h:PI X tg e t)(k:∀σ H Q,t' σ H Q→t σ H Q):PI X tg e t':=fun pins s σ H Q I w=>h pins s σ H Q I (k σ H Q w)
theorem WPI.bind{K:W.Frag}{Xw:Nat→Hp→Prop}{F H:Hp}{m:M D}{k:D→M (List D)}{R:It→Hp→Prop}(h:WPI K Xw F H (m>>=k) R):
 WP K Xw F H m fun v H1=>∃F1 d,Ext F H F1 H1∧Den K F1 d v∧WPI K Xw F1 H1 (k d) R:=by
 match m,h with
 |none,h=>exact h
 |some (.ok d),h=>
  refine fun v H2 F2 e2 q=>⟨F2,d,e2,q,?_⟩
  have h:WPI K Xw F H (k d) R:=h
  show WPI K Xw F2 H2 (k d) R
  match k d,h with
  |none,h=>exact h
  |some (.ok ds),h=>exact fun J H3 F3 e3 q3=>h J H3 F3 (e2.trans e3) q3
  |some (.ex n),h=>exact fun F3 H3 e3=>h F3 H3 (e2.trans e3)
 |some (.ex n),h=>exact h
theorem WPI.bindL{K:W.Frag}{Xw:Nat→Hp→Prop}{F H:Hp}{m:M (List D)}{k:List D→M (List D)}{R:It→Hp→Prop}(h:WPI K Xw F H (m>>=k) R):
 WPL K Xw F H m fun v H1=>∃F1 d,Ext F H F1 H1∧DenL K F1 d v∧WPI K Xw F1 H1 (k d) R:=by
 match m,h with
 |none,h=>exact h
 |some (.ok d),h=>
  refine fun v H2 F2 e2 q=>⟨F2,d,e2,q,?_⟩
  have h:WPI K Xw F H (k d) R:=h
  show WPI K Xw F2 H2 (k d) R
  match k d,h with
  |none,h=>exact h
  |some (.ok ds),h=>exact fun J H3 F3 e3 q3=>h J H3 F3 (e2.trans e3) q3
  |some (.ex n),h=>exact fun F3 H3 e3=>h F3 H3 (e2.trans e3)
 |some (.ex n),h=>exact h
def lstM:D→M (List D)
 | .lst ds=>M.ret ds
 |_=>M.stuck
def Ih:D→M (List D)
 | .tup ds=>M.ret ds
 |_=>M.stuck
def fI(a:DE):DA:=fun ρ=>a ρ>>=lstM
def mE(a:DE):DA:=fun ρ=>a ρ>>=Ih
theorem xS{K:W.Frag}{F:Hp}{a:Addr}{vs:List V}{ds:List D}(h:SqL K F a vs)(hd:DenL K F ds vs):ItD K F (Gv K a) ds:=fun F' H' i s1 s2=>by
 have hs:=Same.seq s2 (Same.seq s1 h)
 refine⟨fun d e=>?_,fun hl=>⟨vs,hs,by rw[←hd.len];exact hl⟩⟩
 obtain⟨v,e1,q⟩:=hd.get e
 refine⟨⟨vs,v,hs,e1⟩,fun x H'' y=>?_⟩
 obtain⟨e2,y⟩:=y
 subst e2
 have:=y vs hs
 rw[e1] at this
 cases this
 exact⟨F',Ext.refl s2,Den.mono s1 q⟩
theorem z6{K:W.Frag}{F:Hp}{a:Addr}{vs:List V}{ds:List D}(h:SqT K F a vs)(hd:DenL K F ds vs):ItD K F (Gw K a) ds:=fun F' H' i s1 s2=>by
 have hs:=Same.tup s2 (Same.tup s1 h)
 refine⟨fun d e=>?_,fun hl=>⟨vs,hs,by rw[←hd.len];exact hl⟩⟩
 obtain⟨v,e1,q⟩:=hd.get e
 refine⟨⟨vs,v,hs,e1⟩,fun x H'' y=>?_⟩
 obtain⟨e2,y⟩:=y
 subst e2
 have:=y vs hs
 rw[e1] at this
 cases this
 exact⟨F',Ext.refl s2,Den.mono s1 q⟩
def eI(lo:Int)(n:Nat):List D:=(List.range n).map fun(i:Nat)=>D.int (lo+(i:Int))
theorem nB{K:W.Frag}{F:Hp}(lo:Int)(n:Nat):ItD K F (Ec lo n) (eI lo n):=fun F' H' i s1 s2=>by
 refine⟨fun d e=>?_,fun hl=>show n≤i by simpa[eI] using hl⟩
 unfold eI at e
 rw[List.getElem?_map] at e
 have hi:i<n:=by
  by_cases hi:i<n
  ·exact hi
  ·rw[List.getElem?_eq_none (by simpa using hi)] at e;cases e
 rw[List.getElem?_range hi] at e
 cases e
 refine⟨hi,fun x H'' y=>?_⟩
 obtain⟨e2,y⟩:=y
 subst e2 y
 exact⟨F',Ext.refl s2,rfl⟩
section
variable{X:Cx}{Xw:Nat→Hp→Prop}{tg l:Expr}{δ:DE}{pos:Pos}
theorem dh(h:PD X Xw l δ):t_ X Xw tg l (fI δ):=PI.weak (AD h) fun σ H R ⟨F,ρ,s,w⟩=>by
 refine⟨F,ρ,s,WP.mono (WPI.bind w) fun v H1 ⟨F1,d,e1,q1,w1⟩=>?_⟩
 cases d with
 |lst ds=>
  obtain⟨a,vs,h1,h2,h3,h4⟩:=q1
  exact⟨a,h1,⟨vs,Same.seq e1.fh (SqL.of h2)⟩,w1 _ _ _ (Ext.refl e1.fh) (xS (SqL.of h2) h3)⟩
 |_=>exact w1.elim
theorem pF(h:PD X Xw l δ):t_ X Xw tg l (mE δ):=PI.weak (Dp h) fun σ H R ⟨F,ρ,s,w⟩=>by
 refine⟨F,ρ,s,WP.mono (WPI.bind w) fun v H1 ⟨F1,d,e1,q1,w1⟩=>?_⟩
 cases d with
 |tup ds=>
  obtain⟨a,vs,h1,h2,h3,h4⟩:=q1
  exact⟨a,h1,⟨vs,Same.tup e1.fh (SqT.of h2)⟩,w1 _ _ _ (Ext.refl e1.fh) (z6 (SqT.of h2) h3)⟩
 |_=>exact w1.elim
def gb:List D→M (List D)
 |[.int j]=>if -4096≤j∧j≤4096 then M.ret (eI 0 j.toNat) else M.stuck
 |_=>M.stuck
def l5:List D→M (List D)
 |[.int i, .int j]=>if (-4096≤i∧i≤4096)∧(-4096≤j∧j≤4096) then M.ret (eI i (j - i).toNat) else M.stuck
 |_=>M.stuck
theorem DenL.one{K:W.Frag}{F:Hp}{d:D}{vs:List V}(h:DenL K F [d] vs):∃v,vs=[v]∧Den K F d v:=by
 obtain⟨v,r,h1,h2,h3⟩:=h
 cases (show r=[] from h3)
 exact⟨v,h1,h2⟩
theorem DenL.two{K:W.Frag}{F:Hp}{d d':D}{vs:List V}(h:DenL K F [d,d'] vs):∃v v',vs=[v,v']∧Den K F d v∧Den K F d' v':=by
 obtain⟨v,r,h1,h2,h3⟩:=h
 obtain⟨v',h4,h5⟩:=h3.one
 subst h4
 exact⟨v,v',h1,h2,h5⟩
theorem cZ{a:Expr}{δs:DA}{p:Pos}(hg:Gl X "range")(hm:X.mg "range"=none)(ha:ko X Xw [a] δs)(hs:starEach [a] X.env=[(false,eval a X.env)]:=by rfl):t_ X Xw tg (.Call (.Name "range" p) [a] [] pos) (fun ρ=>δs ρ>>=gb):=
 PI.weak (wk hg hm ha hs) fun σ H R ⟨F,ρ,s,w⟩=>by
  refine⟨F,ρ,s,WPL.mono (WPI.bindL w) fun vs H1 ⟨F1,ds,e1,q1,w1⟩=>?_⟩
  unfold gb at w1
  split at w1
  ·rename_i j
   obtain⟨v,h1,h2⟩:=q1.one
   cases (show v=_ from h2)
   split at w1
   ·exact⟨j,h1,by omega,by omega,w1 _ _ _ (Ext.refl e1.fh) (nB 0 _)⟩
   ·exact w1.elim
  ·exact w1.elim
theorem hJ{a b:Expr}{δs:DA}{p:Pos}(hg:Gl X "range")(hm:X.mg "range"=none)(ha:ko X Xw [a,b] δs)(hs:starEach [a,b] X.env=[(false,eval a X.env),(false,eval b X.env)]:=by rfl)
 (D3:starEach [b] X.env=[(false,eval b X.env)]:=by rfl):t_ X Xw tg (.Call (.Name "range" p) [a,b] [] pos) (fun ρ=>δs ρ>>=l5):=
 PI.weak (wm hg hm ha hs D3) fun σ H R ⟨F,ρ,s,w⟩=>by
  refine⟨F,ρ,s,WPL.mono (WPI.bindL w) fun vs H1 ⟨F1,ds,e1,q1,w1⟩=>?_⟩
  unfold l5 at w1
  split at w1
  ·rename_i i j
   obtain⟨v,v',h1,h2,h3⟩:=q1.two
   cases (show v=_ from h2)
   cases (show v'=_ from h3)
   split at w1
   ·exact⟨i,j,h1,⟨by omega,by omega,by omega,by omega⟩,w1 _ _ _ (Ext.refl e1.fh) (nB i _)⟩
   ·exact w1.elim
  ·exact w1.elim
end
def bU(tg N:List Str):List Str:=N.map fun y=>if tg.contains y then y++(" ":Str) else y
def gM(X:Cx)(scope:Scope)(tn:List Str)(pins:List (Addr×Obj))(cl:List (Str×Addr))(C:Addr)(fp:List Addr)(s₂:Shared)(H:Hp):Cx:=
 {X with N:=tn++bU tn X.N,s₀:=s₂,H₀:=H,env:=compEnvC scope cl C X.env,outer:=X.stack,ex:=fp,fn:=fun _=>false,pn:=X.pn++pins,xe:=fun _ _=>False}
structure CompSc (X:Cx) (scope:Scope) (tn:List Str):Prop where
 kind:scope.kind= .function
 nocell:∀y∈scope.names,y.2≠ .cell
 names:∀y∈scope.names,y.2= .local→scope.names.lookup y.1=some .local
 frees:∀y∈scope.names,y.2= .free→X.env.kindOf y.1=some .cell∨X.env.kindOf y.1=some .free
 vis:∀p∈(bU tn X.N).zip X.N,scope.names.lookup p.1=none∨(p.1=p.2∧scope.names.lookup p.1=some .free)
theorem g6{env:Env}:∀(names:List (Str×NameKind)) (acc:List (Str×Addr)),(∀y∈names,y.2= .free→∃c,env.cells.lookup y.1=some c)→
 (∀x c,acc.lookup x=some c→env.cells.lookup x=some c)→
 ∃cl,(forIn names acc (fun (x:Str×NameKind) (r:List (Str×Addr))=>do
   let __x:=x
   if (__x.2==NameKind.free)=true then do let c←cellOf env __x.1;pure (ForInStep.yield ((__x.1,c)::r)) else pure (ForInStep.yield r)):Sem (List (Str×Addr)))=pure cl∧
  (∀x c,cl.lookup x=some c→env.cells.lookup x=some c)∧(∀x c,acc.lookup x=some c→∃c',cl.lookup x=some c')∧(∀x,names.lookup x=some .free→∃c,cl.lookup x=some c)
 |[],acc,_,h2=>⟨acc,rfl,h2,fun x c e=>⟨c,e⟩,fun x e=>by simp at e⟩
 |(n,k)::r,acc,h1,h2=>by
  by_cases hk:k= .free
  ·subst hk
   obtain⟨c,hc⟩:=h1 (n, .free) List.mem_cons_self rfl
   obtain⟨cl,e,a1,a2,a3⟩:=g6 r ((n,c)::acc) (fun y hy=>h1 y (List.mem_cons_of_mem _ hy)) (fun x c' q=>by
    rw[List.lookup_cons] at q
    split at q
    ·rename_i hx
     cases q
     rw[show x=n from by simpa using hx];exact hc
    ·exact h2 x c' q)
   refine⟨cl,?_,a1,fun x c' q=>?_,fun x q=>?_⟩
   ·rw[List.forIn_cons]
    have:cellOf env n=pure c:=by unfold cellOf;rw[hc]
    simp only[beq_self_eq_true,if_true,this,pure_bind]
    exact e
   ·by_cases hx:x=n
    ·subst hx
     exact a2 x c (by simp[List.lookup_cons])
    ·exact a2 x c' (by rw[List.lookup_cons,show (x==n)=false from by simpa using hx];exact q)
   ·rw[List.lookup_cons] at q
    split at q
    ·rename_i hx
     exact a2 x c (by rw[List.lookup_cons,hx])
    ·exact a3 x q
  ·obtain⟨cl,e,a1,a2,a3⟩:=g6 r acc (fun y hy=>h1 y (List.mem_cons_of_mem _ hy)) h2
   refine⟨cl,?_,a1,a2,fun x q=>?_⟩
   ·rw[List.forIn_cons]
    have:((k==NameKind.free)=true)=False:=by simpa using hk
    simp only[this,if_false,pure_bind]
    exact e
   ·rw[List.lookup_cons] at q
    split at q
    ·cases q;exact absurd rfl hk
    ·exact a3 x q
theorem kX{scope:Scope}{env:Env}(h:∀y∈scope.names,y.2= .free→∃c,env.cells.lookup y.1=some c):
 ∃cl,closureFor scope env=pure cl∧(∀x c,cl.lookup x=some c→env.cells.lookup x=some c)∧(∀x,scope.names.lookup x=some .free→∃c,cl.lookup x=some c):=by
 obtain⟨cl,e,a1,_,a3⟩:=g6 (env:=env) scope.names [] h (fun x c q=>by simp at q)
 refine⟨cl,?_,a1,a3⟩
 unfold closureFor
 show (forIn scope.names [] _>>=fun r=>pure r)=_
 rw[bind_pure]
 exact e
def noex{α:Type}:M α→M α
 |some (.ok a)=>some (.ok a)
 |_=>none
def cj(f:D→M (Option D)):List D→M (List D)
 |[]=>M.ret []
 |d::ds=>f d>>=fun o=>cj f ds>>=fun r=>M.ret (match o with | some y=>y::r | none=>r)
def Jt(n:Nat):D→M (List D):=fun d=>match n,d with
 |0,d=>M.ret [d]
 |n, .tup ds=>if ds.length=n then M.ret ds else M.stuck
 |_,_=>M.stuck
def d4(n:Nat)(δt:DT)(δe:DE)(ρ:aY):D→M (Option D):=fun d=>
 Jt n d>>=fun ts=>δt (ts.map (fun t=>some (Sl.fz t))++ρ)>>=fun b=>if b then δe (ts.map (fun t=>some (Sl.fz t))++ρ)>>=fun y=>M.ret (some y) else M.ret none
def aT(n:Nat)(δi:DA)(δt:DT)(δe:DE):DE:=fun ρ=>δi ρ>>=fun ds=>noex (cj (d4 n δt δe ρ) ds)>>=dr
def bF:DT:=fun _=>M.ret true
theorem cy(f:D→M (Option D))(d:D)(ds:List D):cj f (d::ds)=(f d>>=fun o=>cj f ds>>=fun r=>M.ret (match o with | some y=>y::r | none=>r)):=rfl
theorem sA{f:D→M (Option D)}{ds:List D}{i:Nat}{d:D}{ys R:List D}(hd:ds[i]? =some d)
 (h:cj f ds=(cj f (ds.drop i)>>=fun r=>M.ret (ys++r)))(hR:cj f ds=M.ret R):
 ∃o,f d=M.ret o∧cj f ds=(cj f (ds.drop (i+1))>>=fun r=>M.ret ((match o with | some y=>ys++[y] | none=>ys)++r)):=by
 have e:ds.drop i=d::ds.drop (i+1):=by
  obtain⟨hi,e⟩:=List.getElem?_eq_some_iff.mp hd
  rw[List.drop_eq_getElem_cons hi,e]
 rw[e,cy] at h
 have h':=h.symm.trans hR
 obtain⟨r,h1,h2⟩:=eM h'
 obtain⟨o,h3,h4⟩:=eM h1
 refine⟨o,h3,?_⟩
 obtain⟨r',h5,h6⟩:=eM h4
 rw[h5,hR]
 rw[←h2,←dB h6]
 show M.ret _=M.ret _
 cases o with
 |none=>rfl
 |some y=>simp
theorem vy{prog:Program}{w:World}{A:Around}{R:Result→Shared→Prop}{s:Shared}{elt target iter:Expr}{ifs:List Expr}{scope:Scope}{pos:Pos}{it acc:Value}{env:Env}(I:Nat→Shared→Prop)
 (turn:∀n s,I n s→wpAny (model prog w) A (pyNext it) (fun r s₁=>match r with
  |none=>R (.ok .next) s₁
  |some v=>wpAny (model prog w) A (letOwnedTupleGo target it v) (fun _ Jr=>wpAny (model prog w) A (assign target env v) (fun _ s₂=>
    wpAny (model prog w) A (forIn ifs true fun c r=>if r=true then do let ok←isTrue c env (eval c env);pure (ForInStep.yield ok) else pure (ForInStep.yield r)) (fun ok s₃=>
     if ok=true then wpAny (model prog w) A (eval elt env) (fun x s₄=>
      wpAny (model prog w) A (call (.builtin "list.append") [acc,x]) (fun _ s₅=>∃m,m<n∧I m s₅) (notedBy (model prog w) A env fun e s'=>R (.error e) s') s₄) (notedBy (model prog w) A env fun e s'=>R (.error e) s') s₃
     else∃m,m<n∧I m s₃) (notedBy (model prog w) A env fun e s'=>R (.error e) s') s₂) (notedBy (model prog w) A env fun e s'=>R (.error e) s') Jr) (notedBy (model prog w) A env fun e s'=>R (.error e) s') s₁) (notedBy (model prog w) A env fun e s'=>R (.error e) s') s)
 (n:Nat) (h:I n s):
 codeAny (model prog w) A (.compLoop (.ListComp elt [⟨target,iter,ifs,0⟩] scope pos) 0 it acc env) R s:=by
 refine codeAny_loop rfl I (fun n s hI=>?_) n h
 show wpAny _ A ((compTurn (.ListComp elt [⟨target,iter,ifs,0⟩] scope pos) 0 it acc env).onRaise (fun x=>do noteFrame x env;theTreesLotGoes x)) _ _ s
 refine wpAny_noted ?_
 rw[compTurn_list]
 refine wpAny_bind (wpAny_standAt (wpAny_bind (wpAny_mono (turn n s hI) (fun r s₁ h₁=>?_) fun _ _ h'=>h')))
 cases r with
 |none=>exact wpAny_pure h₁
 |some v=>
  refine wpAny_bind (wpAny_mono h₁ (fun _ Jr h₁=>?_) fun _ _ h'=>h')
  refine wpAny_bind (wpAny_mono h₁ (fun _ s₂ h₂=>wpAny_bind (wpAny_mono h₂ (fun ok s₃ h₃=>?_) fun _ _ h'=>h')) fun _ _ h'=>h')
  cases ok with
  |false=>exact wpAny_pure ⟨rfl,h₃⟩
  |true=>
   exact wpAny_bind (wpAny_bind (wpAny_mono h₃ (fun x s₄ h₄=>wpAny_bind (wpAny_mono h₄ (fun _ s₅ h₅=>wpAny_pure (wpAny_pure ⟨rfl,h₅⟩)) fun _ _ h'=>h')) fun _ _ h'=>h'))
def vg(X:Cx)(tg:Expr)(n:Nat)(σ:St):Prop:=∀(pins:List (Addr×Obj)) (s:Shared) (σ':St) (F H:Hp) (d:D) (ts:List D) (v:V) (u:Value),Inv X pins σ' H s→Same F H→σ'.drop (max n 1)=σ→RelV v u→Den X.K F d v→Jt n d=M.ret ts→
 wpAny (model X.prog X.w) X.A (assign tg X.env u) (fun _ s'=>∃vs,Inv X pins (vs.map some++σ) H s'∧DenL X.K F ts vs) X.xe s
def i8(X:Cx)(ifs:List Expr)(δt:DT):Prop:=∀(pins:List (Addr×Obj)) (s:Shared) (σ:St) (H:Hp) (Q:Bool→Hp→Prop),Inv X pins σ H s→H0 X.K (fun _ _=>False) δt σ H Q→
 wpAny (model X.prog X.w) X.A (forIn ifs true fun c r=>if r=true then do let ok←isTrue c X.env (eval c X.env);pure (ForInStep.yield ok) else pure (ForInStep.yield r)) (TP X pins σ Q) X.xe s
theorem b8{X:Cx}:i8 X [] bF:=fun pins s σ H Q I ⟨F,ρ,S,w⟩=>wpAny_tests_nil ⟨H,I,w H F (Ext.refl S.fh)⟩
theorem iZ{X:Cx}{c:Expr}{δ:DT}(h:m7 X (fun _ _=>False) c δ):i8 X [c] δ:=fun pins s σ H Q I w=>wpAny_tests_one (h pins s σ H Q I w)
theorem StE.cons{K:W.Frag}{F H:Hp}{σ:St}{ρ:aY}{ts:List D}{vs:List V}(s:StE K F H σ ρ)(h:DenL K F ts vs):StE K F H (vs.map some++σ) (ts.map (fun t=>some (Sl.fz t))++ρ):=by
 refine⟨s.fh,fun i sl e=>?_⟩
 have hl:=h.len
 by_cases hi:i<ts.length
 ·rw[List.getElem?_append_left (by simpa using hi),List.getElem?_map] at e
  cases q:ts[i]? with
  |none=>rw[q] at e;cases e
  |some t=>
   rw[q] at e
   cases e
   obtain⟨v,e1,e2⟩:=h.get q
   exact⟨v,by rw[List.getElem?_append_left (by simp;omega),List.getElem?_map,e1];rfl,e2⟩
 ·rw[List.getElem?_append_right (by simpa using hi)] at e
  obtain⟨v,e1,e2⟩:=s.den _ _ e
  refine⟨v,?_,e2⟩
  rw[List.getElem?_append_right (by simp;omega)]
  simpa[hl] using e1
theorem WPB.take{Xw:Nat→Hp→Prop}{F H:Hp}{b:Bool}:WPB Xw F H (M.ret b) fun b' H'=>b'=b∧∃F',Ext F H F' H':=fun H' F' e=>⟨rfl,F',e⟩
theorem WP.take{K:W.Frag}{Xw:Nat→Hp→Prop}{F H:Hp}{d:D}:WP K Xw F H (M.ret d) fun v H'=>∃F',Ext F H F' H'∧Den K F' d v:=fun v H' F' e q=>⟨F',e,q⟩
def jv(env:Env)(p:Str×NameKind):Str×NameKind:=if (p.2== .free&&env.scope.kind== .function&&env.kindOf p.1==some .cell) then(p.1, .cell) else(p.1,p.2)
theorem el(scope:Scope)(env:Env):(relabel scope env).names=scope.names.map (jv env):=rfl
theorem yV(env:Env)(p:Str×NameKind):(jv env p).1=p.1:=by unfold jv;split<;>rfl
theorem eW(env:Env)(x:Str):∀ns:List (Str×NameKind),(ns.map (jv env)).lookup x=(ns.lookup x).map fun k=>(jv env (x,k)).2
 |[]=>rfl
 |(m,k)::r=>by
  rw[List.map_cons,List.lookup_cons,List.lookup_cons]
  have e:jv env (m,k)=(m,(jv env (m,k)).2):=Prod.ext (yV env (m,k)) rfl
  rw[e]
  dsimp only
  by_cases hx:(x==m)=true
  ·have hm:x=m:=by simpa using hx
   subst hm
   rw[hx]
   rfl
  ·have hx:(x==m)=false:=by simpa using hx
   rw[hx]
   exact eW env x r
theorem pJ{scope:Scope}{env:Env}{x:Str}(h:scope.names.lookup x=none):(relabel scope env).names.lookup x=none:=by
 rw[el,eW,h];rfl
theorem pI{scope:Scope}{env:Env}{x:Str}(hc:∀y∈scope.names,y.2≠ .cell)(h:(relabel scope env).names.lookup x=some .cell∨(relabel scope env).names.lookup x=some .free):scope.names.lookup x=some .free:=by
 rw[el,eW] at h
 cases q:scope.names.lookup x with
 |none=>rw[q] at h;rcases h with h | h<;>cases h
 |some k=>
  rw[q] at h
  have hk:k≠ .cell:=hc _ (PySem.mem_of_lookup q)
  have h:(jv env (x,k)).2= .cell∨(jv env (x,k)).2= .free:=by simpa using h
  by_cases hf:k= .free
  ·rw[hf]
  ·have:(jv env (x,k)).2=k:=by
    unfold jv
    rw[if_neg]
    simp[hf]
   rw[this] at h
   rcases h with h | h
   ·exact absurd h hk
   ·exact absurd h hf
theorem jw{scope:Scope}{env:Env}{x:Str}(h:scope.names.lookup x=some .free):¬(relabel scope env).names.lookup x=some .local:=by
 rw[el,eW,h]
 intro z
 have z:(jv env (x, .free)).2= .local:=by simpa using z
 unfold jv at z
 split at z<;>cases z
structure BlockEnd (X:Cx) (pins:List (Addr×Obj)) (C:Addr) (H':Hp) (s1:Shared):Prop where
 ns:∃m,s1.heap.Ns C m
 free:H' C=none
 nl:C≠X.env.locals
 nw:X.s₀.heap.objs.size≤C
 nc:∀x c,X.env.cells.lookup x=some c→c≠C
 np:∀p∈X.pn++pins,p.1≠C
theorem qo{X:Cx}{Xw:Nat→Hp→Prop}{elt iter tg:Expr}{ifs:List Expr}{scope:Scope}{pos:Pos}{tn:List Str}{n:Nat}{δi:DA}{δt:DT}{δe:DE}{cl:List (Str×Addr)}{pins:List (Addr×Obj)}{s:Shared}{σ:St}{H F:Hp}{ρ:aY}{Q:VK}{RR:Value→Addr→Result→Shared→Prop}
 (sc:CompSc X scope tn)(hn:tn.length=max n 1)(hc:X.calm=true)(hi:t_ X Xw tg iter δi)
 (hg:∀pins cl C fp s₂ H σ,vg (gM X scope tn pins cl C fp s₂ H) tg n σ)
 (ht:∀pins cl C fp s₂ H,i8 (gM X scope tn pins cl C fp s₂ H) ifs δt)
 (he:∀pins cl C fp s₂ H,PD (gM X scope tn pins cl C fp s₂ H) (fun _ _=>False) elt δe)
 (I:Inv X pins σ H s)(S:StE X.K F H σ ρ)(w:WP X.K Xw F H (aT n δi δt δe ρ) Q)
 (xi:∀x c,cl.lookup x=some c→X.env.cells.lookup x=some c)(DV:∀x,scope.names.lookup x=some .free→∃c,cl.lookup x=some c)
 (JR:∀(s1:Shared) (C D:Addr) (H':Hp),Inv X pins σ H' s1→Q (.ref D) H'→BlockEnd X pins C H' s1→RR (.ref D) C (.ok .next) s1):
 wpAny (model X.prog X.w) X.A (eval iter X.env) (fun x s₁=>wpAny (model X.prog X.w) X.A (pyIter x) (fun it s₂=>wpAny (model X.prog X.w) X.A (newList []) (fun acc s₃=>
  wpAny (model X.prog X.w) X.A (newFunctionEnv scope X.env.globals cl [] X.env.qual none .none (some X.env)) (fun El s₄=>
   codeAny (model X.prog X.w) X.A (.compStart (.ListComp elt [⟨tg,iter,ifs,0⟩] scope pos) 0 it acc {El with scope:=relabel scope X.env}) (RR acc El.locals) s₄) X.xe s₃) X.xe s₂) X.xe s₁) X.xe s:=by
 refine bI (hi pins s σ H (fun J H2=>∃F2 ds,Ext F H F2 H2∧ItD X.K F2 J ds∧WP X.K Xw F2 H2 (noex (cj (d4 n δt δe ρ) ds)>>=dr) Q) I ⟨F,ρ,S,?_⟩) fun xv s₁ h₁=>bI h₁ fun it s₂ h₂=>?_
 ·unfold aT at w
  rcases(δi ρ).cs with hq | ⟨m,hq⟩ | ⟨ds,hq⟩
  ·rw[hq] at w;exact w.elim
  ·rw[hq] at w⊢;exact w
  ·rw[hq] at w⊢;exact fun J H' F' e q=>⟨F',ds,e,q,WP.ext e w⟩
 obtain⟨ia,fp,Ju,J,H2,rfl,I2,T,FN,f2,F2,ds,e2,Jg,w2⟩:=h₂
 obtain⟨R,hR,IE,w2⟩:∃R,cj (d4 n δt δe ρ) ds=M.ret R∧R.length≤lim∧WP X.K Xw F2 H2 (M.ret (.lst R)) Q:=by
  rcases(cj (d4 n δt δe ρ) ds).cs with hq | ⟨m,hq⟩ | ⟨R,hq⟩
  ·rw[hq] at w2;exact w2.elim
  ·rw[hq] at w2;exact w2.elim
  ·rw[hq] at w2
   obtain⟨h1,h2⟩:=sV (X:=X) (f:=D.lst) (show WP X.K Xw F2 H2 (dr R) Q from w2)
   exact⟨R,hq,h1,h2⟩
 refine wpAny_newObj_type (wpAny_newFunctionEnv sc.nocell (by intro y hy;simp at hy) (fun h₁ Cj zW=>?_) sc.kind)
 dsimp only at Cj zW⊢
 generalize GN:s₂.heap.push {cls:= .type "list",dict:=none,data:= .seq ([]:List Value).toArray}=HL at Cj zW⊢
 have hC:HL.objs.size=s₂.heap.objs.size+1:=by rw[←GN,Heap.size_push]
 have vE:s₂.heap.objs.size<HL.objs.size:=by rw[hC];exact Nat.lt_succ_self _
 have old:∀b o,s₂.heap.get? b=some o→h₁.get? b=some o:=fun b o e=>zW.extBut b o (Nat.ne_of_lt (Nat.lt_trans (Heap.lt_size e) vE)) (Heap.get?_push_of_some _ (GN▸Heap.get?_push_of_some _ e))
 have sL:h₁.get? s₂.heap.objs.size=some {cls:= .type "list",data:= .seq ([]:List Value).toArray}:=zW.extBut _ _ (Nat.ne_of_lt vE) (Heap.get?_push_of_some _ (GN▸Heap.get?_push_size _ rfl))
 have nD:H2 s₂.heap.objs.size=none:=I2.hok.fresh (Nat.le_refl _)
 have nC:H2 HL.objs.size=none:=I2.hok.fresh (Nat.le_of_lt vE)
 have gC:s₂.heap.get? HL.objs.size=none:=Heap.get?_none_of_le (Nat.le_of_lt vE)
 have fl:∀b∈fp,b<s₂.heap.objs.size:=fun b hb=>by
  obtain⟨o,e,_⟩:=T.obj 0 _ FN b hb
  exact Heap.lt_size e
 generalize qA:gM X scope tn pins cl HL.objs.size fp s₂ H2=X'
 have Jn:X'.Ok:=by
  subst qA
  refine⟨I2.ok.mod,sc.kind,I2.ok.glob,I2.ok.blt,Nat.le_of_lt vE,fun x y c h1 h2=>I2.ok.inj x y c (xi _ _ h1) (xi _ _ h2),fun x hx=>?_,fun _ _ h=>(by cases h),I2.ok.hd,I2.ok.frames, .inl rfl,
   fun b hb=>⟨Nat.ne_of_lt (Nat.lt_trans (fl b hb) vE),fun x c h=>(f2 b hb).2.2.2.2.1 x c (xi _ _ h)⟩,I2.bs,Nat.le_trans I2.ok.bsz I2.sz,fun b o e hb=>?_,fun b hb z=>?_,I2.stack,I2.stkFree⟩
  ·have hx:(relabel scope X.env).names.lookup x=some .cell∨(relabel scope X.env).names.lookup x=some .free:=hx
   exact DV x (pI sc.nocell hx)
  ·rcases(f2 b hb).2.2.2.1 with z | z
   ·exact I2.ok.noex b o e z
   ·exact absurd (Nat.lt_of_lt_of_le (Heap.lt_size (I2.ok.bs b o e).1) z) (Nat.lt_irrefl _)
  ·rcases List.mem_cons.mp (I2.stkSub b z) with q | q
   ·exact(f2 b hb).2.1 q
   ·exact(f2 b hb).2.2.1 q
 have HC:∀b o,H2 b=some o→b≠s₂.heap.objs.size:=fun b o e=>bz e nD
 have B4:∀{H':Hp},(∀b∈fp,H' b=none)→∀b∈fp,qc X' [] H' b:=fun Kl b hb=>by
  subst qA
  refine⟨Kl b hb,Nat.ne_of_lt (Nat.lt_trans (fl b hb) vE),fun z=>Jn.exfs b hb z, .inl hb,fun x c h=>(f2 b hb).2.2.2.2.1 x c (xi _ _ h),fun p hp=>?_⟩
  rw[List.append_nil] at hp
  exact(f2 b hb).2.2.2.2.2 p hp
 have I0:Inv X' [] (List.replicate (max n 1) none++σ) (upd H2 s₂.heap.objs.size (.lst [])) {s₂ with heap:=h₁,toks:=s₂.toks+([]:List (Str×Value)).length}:=by
  subst qA
  have Hf:HOk X.prog X.w (upd H2 s₂.heap.objs.size (.lst [])) h₁:=I2.hok.laid old (Nat.le_refl _) ⟨Nat.zero_le _,[],_, .nil,sL⟩
  refine⟨Jn,rfl,I2.bare,Un.laid old (Nat.le_refl _) nD,⟨_,Cj,fun i x v h1 h2 h3=>?_⟩,fun x c h=>?_,?_,fun x c h=>?_,fun p hp=>?_,Hf,?_⟩
  ·by_cases hi:i<max n 1
   ·rw[List.getElem?_append_left (by simpa using hi),List.getElem?_replicate,if_pos hi] at h2
    cases h2
   ·have qa:tn.length≤i:=by omega
    have h1:(tn++bU tn X.N)[i]? =some x:=h1
    rw[List.getElem?_append_right qa] at h1
    rw[List.getElem?_append_right (by simpa using hi),List.length_replicate,←hn] at h2
    have hN:∃y,X.N[i - tn.length]? =some y∧(x,y)∈(bU tn X.N).zip X.N:=by
     have dz:=(List.getElem?_eq_some_iff.mp h1).1
     have EY:i - tn.length<X.N.length:=by simpa[bU] using dz
     refine⟨X.N[i - tn.length],List.getElem?_eq_getElem EY,?_⟩
     refine List.mem_iff_getElem?.mpr ⟨i - tn.length,?_⟩
     rw[List.getElem?_zip_eq_some]
     exact⟨h1,List.getElem?_eq_getElem EY⟩
    obtain⟨y,hy,hm⟩:=hN
    have hV:(relabel scope X.env).names.lookup x=some .local∨(relabel scope X.env).names.lookup x=some .cell∨(relabel scope X.env).names.lookup x=some .free:=h3
    rcases sc.vis _ hm with qD | ⟨Hs,Bu⟩
    ·have qD:scope.names.lookup x=none:=qD
     have:(relabel scope X.env).names.lookup x=none:=pJ qD
     rw[this] at hV
     rcases hV with z | z | z<;>cases z
    ·have Hs:x=y:=Hs
     subst Hs
     have Bu:scope.names.lookup x=some .free:=Bu
     have hk:=sc.frees (x, .free) (PySem.mem_of_lookup Bu) rfl
     obtain⟨m,Ce,zA⟩:=I2.loc
     obtain⟨u,ru,lk⟩:=zA _ x v hy h2 (by rcases hk with z | z;exact .inr (.inl z);exact .inr (.inr z))
     refine⟨u,ru, .inr ⟨?_,?_⟩⟩
     ·rcases hV with z | z | z
      ·exact absurd z (jw Bu)
      ·exact .inl z
      ·exact .inr z
     ·rcases lk with⟨z,_⟩ | ⟨_,c,J0,B7⟩
      ·rcases hk with q | q
       ·rw[show X.env.kindOf x=some .local from z] at q;cases q
       ·rw[show X.env.kindOf x=some .local from z] at q;cases q
      ·obtain⟨c',Br⟩:=DV x Bu
       have:=xi _ _ Br
       rw[J0] at this
       cases this
       obtain⟨o,ho,hd⟩:=B7
       exact⟨c,Br,o,old _ _ ho,hd⟩
  ·obtain⟨v,o,ho,hd⟩:=I2.cell x c (xi _ _ h)
   exact⟨v,o,old _ _ ho,hd⟩
  ·show upd H2 s₂.heap.objs.size (.lst []) HL.objs.size=none
   rw[aw (Nat.ne_of_gt vE)]
   exact nC
  ·have EL:=xi _ _ h
   obtain⟨v,q⟩:=I2.cell x c EL
   rw[aw (Nat.ne_of_lt q.lt)]
   exact I2.freeC x c EL
  ·rw[List.append_nil] at hp
   obtain⟨e,nn,ne,nf,d⟩:=I2.pin p hp
   have dz:=Heap.lt_size e
   refine⟨old _ _ e,by rw[aw (Nat.ne_of_lt dz)];exact nn,Nat.ne_of_lt (Nat.lt_trans dz vE),fun z=>?_,d⟩
   rcases List.mem_cons.mp (I2.stkSub p.1 z) with q | q
   ·exact ne q
   ·exact nf q
  ·show (List.replicate (max n 1) none++σ).length=(tn++bU tn X.N).length
   rw[List.length_append,List.length_append,List.length_replicate,hn,show (bU tn X.N).length=X.N.length from by simp[bU],I2.len]
 have loop:∀s₃:Shared,s₃={s₂ with heap:=h₁,toks:=s₂.toks+([]:List (Str×Value)).length}→
  codeAny (model X.prog X.w) X.A (.compLoop (.ListComp elt [⟨tg,iter,ifs,0⟩] scope pos) 0 (.ref ia) (.ref s₂.heap.objs.size) (compEnvC scope cl HL.objs.size X.env))
   (RR (.ref s₂.heap.objs.size) HL.objs.size) s₃:=by
  intro s₃ Ku
  have xq:X'.env=compEnvC scope cl HL.objs.size X.env:=by subst qA;rfl
  have hA:X'.A=X.A:=by subst qA;rfl
  have hP:X'.prog=X.prog:=by subst qA;rfl
  have hw:X'.w=X.w:=by subst qA;rfl
  have hK:X'.K=X.K:=by subst qA;rfl
  have KC:X'.xe=fun _ _=>False:=by subst qA;rfl
  have Bs:X'.calm=true:=by subst qA;exact hc
  have J8:X'.fs=kE X.stack:=by subst qA;rfl
  have hex:X'.ex=fp:=by subst qA;rfl
  have JP:X'.H₀=H2:=by subst qA;rfl
  have Ja:X'.s₀=s₂:=by subst qA;rfl
  have pass:∀{α:Type}{t:Sem α}{P:α→Shared→Prop}{E':Value→Shared→Prop}{s:Shared},wpAny (model X'.prog X'.w) X'.A t P X'.xe s→wpAny (model X.prog X.w) X.A t P E' s:=fun {α t P E' s} h=>by
   rw[hP,hw,hA,KC] at h
   exact wpAny_mono h (fun _ _ q=>q) fun _ _ q=>q.elim
  refine vy (fun m s'=>∃(i:Nat) (F' H':Hp) (vs:List V) (ys:List D) (σt:St),m=ds.length - i∧i≤ds.length∧σt.length=max n 1∧Inv X' [] (σt++σ) H' s'∧Ju i s'.heap∧(∀b∈fp,H' b=none)∧Ext F2 H2 F' H'∧
   H' s₂.heap.objs.size=some (.lst vs)∧F' s₂.heap.objs.size=none∧DenL X.K F' ys vs∧cj (d4 n δt δe ρ) ds=(cj (d4 n δt δe ρ) (ds.drop i)>>=fun r=>M.ret (ys++r))) ?_ ds.length ?_
  ·rintro m s' ⟨i,F',H',vs,ys,σt,rfl,G9,KD,I',jB,Iw,sH,hD,fD,Gh,heq⟩
   by_cases dz:i<ds.length
   ·
    obtain⟨d,hd⟩:∃d,ds[i]? =some d:=⟨_,List.getElem?_eq_getElem dz⟩
    obtain⟨G7,Cr⟩:=(Jg F' H' i sH.ff sH.fh).1 d hd
    obtain⟨o,ho,EO⟩:=sA hd heq hR
    have Ht:ys.length≤lim:=by
     rw[heq] at hR
     obtain⟨r,_,hr⟩:=eM hR
     rw[←dB hr,List.length_append] at IE
     omega
    obtain⟨ts,Kx,ho⟩:=eM ho
    refine pass ?_
    rw[hP,hw]
    refine bI (T.item X' hP hw hK Bs i [] s' (σt++σ) H' X'.xe I' (B4 Iw) jB G7) ?_
    rintro r s1 ⟨u,rfl,h1⟩
    refine pass ?_
    rw[hP,hw]
    refine bI h1 ?_
    rintro _ s2 ⟨x,H3,I3,rx,y3,D9,F8⟩
    obtain⟨F3,zu,q3⟩:=Cr x H3 y3
    have IB:H3 s₂.heap.objs.size=some (.lst vs):=zu.hh _ _ hD
    have JI:F3 s₂.heap.objs.size=none:=by rw[zu.old hD (fun _ z=>nomatch z)];exact fD
    have I3':=I3.pinned (B4 F8) (T.obj _ _ D9)
    have uG:∀{σ7:St}{H7:Hp}{s7:Shared},Inv X' ([]++lU fp s2.heap) σ7 H7 s7→Ju (i+1) s7.heap∧∀b∈fp,H7 b=none:=fun {σ7 H7 s7} I7=>
     ⟨T.keep _ _ _ D9 fun b hb o e=>(I7.pin (b,o) (List.mem_append_right _ (List.mem_append_right _ (eX hb e)))).1,fun b hb=>by
      obtain⟨o,e,_⟩:=T.obj _ _ D9 b hb
      exact(I7.pin (b,o) (List.mem_append_right _ (List.mem_append_right _ (eX hb e)))).2.1⟩
    have J_:vg X' tg n σ:=by subst qA;exact hg _ _ _ _ _ _ _
    have Kw:i8 X' ifs δt:=by subst qA;exact ht _ _ _ _ _ _
    have J4:PD X' (fun _ _=>False) elt δe:=by subst qA;exact he _ _ _ _ _ _
    refine pass ?_
    rw[←xq]
    refine bI (J_ _ s2 (σt++σ) F3 H3 d ts x u I3' zu.fh (by rw[←KD];simp) rx (by rw[hK];exact q3) Kx) ?_
    rintro _ s4 ⟨vt,I4,dt⟩
    rw[hK] at dt
    have S4:StE X.K F3 H3 (vt.map some++σ) (ts.map (fun t=>some (Sl.fz t))++ρ):=StE.cons ((S.ext e2).ext (sH.trans zu)) dt
    obtain⟨b,hb,ho⟩:=eM ho
    refine pass ?_
    try rw[←xq]
    refine bI (Kw _ s4 _ H3 (fun b' H5=>b'=b∧∃F5,Ext F3 H3 F5 H5) I4 ⟨F3,_,by rw[hK];exact S4,by rw[hb];exact WPB.take⟩) ?_
    rintro b' s5 ⟨H5,I5,rfl,F5,B1⟩
    have GL:H5 s₂.heap.objs.size=some (.lst vs):=B1.hh _ _ IB
    have Ir:F5 s₂.heap.objs.size=none:=by rw[B1.old IB (fun _ z=>nomatch z)];exact JI
    cases b' with
    |false=>
     rw[if_neg Bool.false_ne_true] at ho⊢
     obtain rfl:=dB ho
     refine⟨ds.length - (i+1),by omega,i+1,F5,H5,vs,ys,vt.map some,rfl,dz,?_,I5.unpinned,(uG I5).1,(uG I5).2,sH.trans (zu.trans B1),GL,Ir,DenL.mono (zu.trans B1).ff Gh,EO⟩
     have h1:=I5.len
     have h2:=I3.len
     rw[List.length_append] at h1 h2
     omega
    |true=>
     rw[if_pos rfl] at ho⊢
     obtain⟨yv,hy,ho⟩:=eM ho
     obtain rfl:=dB ho
     refine pass ?_
     try rw[←xq]
     refine bI (J4 _ s5 _ H5 (fun v H6=>∃F6,Ext F5 H5 F6 H6∧Den X.K F6 yv v) I5 ⟨F5,_,by rw[hK];exact S4.ext B1,by rw[hy,hK];exact WP.take⟩) ?_
     rintro xv s6 ⟨v,H6,I6,rv,F6,F7,qv⟩
     have JO:H6 s₂.heap.objs.size=some (.lst vs):=F7.hh _ _ GL
     have Iu:F6 s₂.heap.objs.size=none:=by rw[F7.old GL (fun _ z=>nomatch z)];exact Ir
     have KA:vs.length<sizeLine:=by
      have:=Gh.len
      have:=cW
      omega
     refine pass ?_
     refine bI (nM _ s6 _ H6 (.ref s₂.heap.objs.size) [v] (.ref s₂.heap.objs.size) [xv] (fun _ H7=>H7=upd H6 s₂.heap.objs.size (.lst (vs++[v]))) I6 rfl (.cons rv .nil) ⟨_,vs,v,rfl,rfl,JO,KA,rfl⟩) ?_
     rintro _ s7 ⟨_,H7,I7,_,rfl⟩
     have JH:Ext F2 H2 F6 (upd H6 s₂.heap.objs.size (.lst (vs++[v]))):=by
      have e:=sH.trans (zu.trans (B1.trans F7))
      refine⟨fun b u q=>?_,e.ff,fun b u q=>?_,e.new⟩
      ·rw[aw (HC b u q)];exact e.hh b u q
      ·rw[aw (fun z=>by rw[z,Iu] at q;cases q)];exact e.fh b u q
     refine⟨ds.length - (i+1),by omega,i+1,F6,_,vs++[v],ys++[yv],vt.map some,rfl,dz,?_,I7.unpinned,(uG I7).1,(uG I7).2,JH,aD,Iu,
      DenL.append (DenL.mono (zu.trans (B1.trans F7)).ff Gh) (.cons qv .nil),EO⟩
     have h1:=I5.len
     have h2:=I3.len
     rw[List.length_append] at h1 h2
     omega
   ·
    have hi:i=ds.length:=by omega
    subst hi
    rw[List.drop_length] at heq
    have JS:R=ys:=by
     rw[heq] at hR
     have hR:M.ret (ys++[])=M.ret R:=hR
     rw[←dB hR,List.append_nil]
    subst JS
    refine pass ?_
    rw[hP,hw]
    refine bI (T.done X' hP hw hK Bs ds.length [] s' (σt++σ) H' X'.xe I' (B4 Iw) jB ((Jg F' H' ds.length sH.ff sH.fh).2 (Nat.le_refl _))) ?_
    rintro r s1 ⟨rfl,I1⟩
    obtain⟨m,hm,_⟩:=I1.loc
    rw[xq] at hm
    have JN:H' HL.objs.size=none:=by
     have:=I1.free
     rw[xq] at this
     exact this
    have u:=I1.base
    rw[J8,hex,JP,Ja] at u
    have qE:s1.os=s₂.os:=by have:=I1.os;rw[Ja] at this;exact this
    have ER:=I1.hok
    rw[hP,hw] at ER
    refine JR s1 HL.objs.size s₂.heap.objs.size H' (I2.call' (s':=s1) (ch:=fp) qE u ER I1.bare (fun b hb=>⟨(f2 b hb).2.2.2.1,(f2 b hb).2.1,(f2 b hb).2.2.2.2.1,(f2 b hb).2.2.2.2.2⟩)) ?_
     ⟨⟨m,hm⟩,JN,Nat.ne_of_gt (Nat.lt_trans I2.lt vE),Nat.le_trans I2.sz (Nat.le_of_lt vE),fun x c q z=>?_,fun p hp z=>?_⟩
    rotate_left
    ·obtain⟨v,q'⟩:=I2.cell x c q
     exact absurd (Nat.lt_trans q'.lt vE) (by rw[z];exact Nat.lt_irrefl _)
    ·exact absurd (Nat.lt_trans (Heap.lt_size (I2.pin p hp).1) vE) (by rw[z];exact Nat.lt_irrefl _)
    refine WP.fin w2 (F':=upd F' s₂.heap.objs.size (.lst vs)) ⟨sH.hh,fun b u q=>?_,fun b u q=>?_,fun a ha=>?_⟩ ⟨_,vs,rfl,aD,DenL.mono (fun b u q=>?_) Gh,IE⟩
    ·rw[aw (fun z=>by have:=sH.ff b u q;rw[z,fD] at this;cases this)];exact sH.ff b u q
    ·by_cases z:b=s₂.heap.objs.size
     ·rw[z,aD] at q;rw[z,hD];exact q
     ·rw[aw z] at q;exact sH.fh b u q
    ·rcases sH.new a ha with q | q
     ·exact .inl (by rw[aw (fun z=>ha (by rw[z];exact nD))];exact q)
     ·exact .inr q
    ·rw[aw (fun z=>by rw[z,fD] at q;cases q)];exact q
  ·rw[Ku]
   refine⟨0,F2,_,[],[],List.replicate (max n 1) none,by simp,Nat.zero_le _,by simp,I0,T.keep _ _ _ FN (fun b hb o e=>old b o e),fun b hb=>?_,⟨fun b u q=>?_,Same.refl _,fun b u q=>?_,fun _ _=> .inl rfl⟩,aD,Same.free e2.fh nD,rfl,?_⟩
   ·rw[aw (Nat.ne_of_lt (fl b hb))];exact(f2 b hb).1
   ·rw[aw (HC b u q)];exact q
   ·rw[aw (HC b u (e2.fh b u q))];exact e2.fh b u q
   ·rw[List.drop_zero]
    rcases(cj (d4 n δt δe ρ) ds).cs with hq | ⟨m,hq⟩ | ⟨R,hq⟩<;>rw[hq]<;>rfl
 exact codeAny_compStart_list (loop _ rfl) (T.self X.A 0 _ _ _ (T.keep _ _ _ FN (fun b hb o e=>old b o e)) (loop _ rfl))
theorem Inv.block{X:Cx}{pins:List (Addr×Obj)}{σ:St}{H':Hp}{s1:Shared}{C:Addr}{h':Heap}(I:Inv X pins σ H' s1)(b:BlockEnd X pins C H' s1)(zB:Heap.SameBut C s1.heap h'):Inv X pins σ H' {s1 with heap:=h'}:=
 I.turned (t':=s1.toks) (fun a o ha e=>(zB.2 a ha).trans e) b.free b.nl (.inr b.nw) b.nc b.np
section
variable{X:Cx}{Xw:Nat→Hp→Prop}{elt iter tg:Expr}{ifs:List Expr}{scope:Scope}{pos:Pos}{tn:List Str}{n:Nat}{δi:DA}{δt:DT}{δe:DE}
theorem bV(sc:CompSc X scope tn)(hn:tn.length=max n 1)(hc:X.calm=true)(hi:t_ X Xw tg iter δi)
 (hg:∀pins cl C fp s₂ H σ,vg (gM X scope tn pins cl C fp s₂ H) tg n σ)
 (ht:∀pins cl C fp s₂ H,i8 (gM X scope tn pins cl C fp s₂ H) ifs δt)
 (he:∀pins cl C fp s₂ H,PD (gM X scope tn pins cl C fp s₂ H) (fun _ _=>False) elt δe)
 (hs:∀x,foldedSetIterable iter X.env x=pure x:=by intro _;rfl):
 PD X Xw (.ListComp elt [⟨tg,iter,ifs,0⟩] scope pos) (aT n δi δt δe):=by
 intro pins s σ H Q I ⟨F,ρ,S,w⟩
 obtain⟨cl,xE,xi,DV⟩:=kX (scope:=scope) (env:=X.env) fun y hy hf=>I.ok.has y.1 (sc.frees y hy hf)
 rw[eval_ListComp]
 refine wpAny_comprehension_free (use:=none) rfl hs xE sc.kind sc.names (qo (RR:=fun acc C=>compPost (model X.prog X.w) X.A X.xe none (EP X pins σ Q) acc C) sc hn hc hi hg ht he I S w xi DV fun s1 C D H' I1 q b=>?_)
 obtain⟨m,hm⟩:=b.ns
 exact⟨m,hm,fun h' zB=>⟨.ref D,H',Inv.block I1 b zB,rfl,q⟩⟩
end
inductive Out where
 |nx (ρ:aY) | rt (d:D)
abbrev DS:=aY→M Out
structure StOk (K:W.Frag) (F₀ H₀ F H:Hp) (σ:St) (ρ:aY):Prop where
 ext:Ext F₀ H₀ F H
 st:StE K F H σ ρ
 len:ρ.length=σ.length
 own:∀(i:Nat) (c:C) (a:Addr),ρ[i]? =some (some (.ow c))→σ[i]? =some (some (.ref a))→H₀ a=none
 sep:∀(i j:Nat) (c c':C) (a:Addr),ρ[i]? =some (some (.ow c))→ρ[j]? =some (some (.ow c'))→σ[i]? =some (some (.ref a))→σ[j]? =some (some (.ref a))→i=j
def WPS(K:W.Frag)(Xw:Nat→Hp→Prop)(F₀ H₀:Hp)(m:M Out)(Dn:Ends):Prop:=
 match m with
 |none=>False
 |some (.ok (.nx ρ))=>∀σ F H,StOk K F₀ H₀ F H σ ρ→Dn.nx σ H
 |some (.ok (.rt d))=>∀v F H,Ext F₀ H₀ F H→Den K F d v→Dn.rt v H
 |some (.ex n)=>∀F H,Ext F₀ H₀ F H→Xw n H
def tS(K:W.Frag)(Xw:Nat→Hp→Prop)(F₀ H₀:Hp)(τ:DS):TS:=fun Dn σ H=>∃F ρ,StOk K F₀ H₀ F H σ ρ∧WPS K Xw F₀ H₀ (τ ρ) Dn
def g0(X:Cx)(Xw:Nat→Hp→Prop)(st:Stmt)(τ:DS):Prop:=∀F₀ H₀,PS X st (tS X.K Xw F₀ H₀ τ)
def PSDs(X:Cx)(Xw:Nat→Hp→Prop)(st:List Stmt)(τ:DS):Prop:=∀F₀ H₀,PSs X st (tS X.K Xw F₀ H₀ τ)
theorem PS.weak{X:Cx}{st:Stmt}{t t':TS}(h:PS X st t)(k:∀D σ H,t' D σ H→t D σ H):PS X st t':=fun pins s σ H D I w=>h pins s σ H D I (k D σ H w)
theorem PSs.weak{X:Cx}{st:List Stmt}{t t':TS}(h:PSs X st t)(k:∀D σ H,t' D σ H→t D σ H):PSs X st t':=fun pins s σ H D I w=>h pins s σ H D I (k D σ H w)
section
variable{K:W.Frag}{Xw:Nat→Hp→Prop}{F₀ H₀ F H F' H':Hp}{σ:St}{ρ:aY}
theorem StOk.ext'(s:StOk K F₀ H₀ F H σ ρ)(e:Ext F H F' H'):StOk K F₀ H₀ F' H' σ ρ:=⟨s.ext.trans e,s.st.ext e,s.len,s.own,s.sep⟩
theorem StOk.set(s:StOk K F₀ H₀ F H σ ρ){i:Nat}{d:D}{v:V}(h:Den K F d v):StOk K F₀ H₀ F H (σ.set i (some v)) (ρ.set i (some (.fz d))):=by
 have hl:=s.len
 have get:∀(j:Nat) (sl:Sl),(ρ.set i (some (.fz d)))[j]? =some (some sl)→(j=i∧i<ρ.length∧sl= .fz d)∨(j≠i∧ρ[j]? =some (some sl)):=fun j sl e=>by
  by_cases hj:j=i
  ·subst hj
   have hi:j<ρ.length:=by
    have:=(List.getElem?_eq_some_iff.mp e).1
    simpa using this
   rw[List.getElem?_set_self hi] at e
   cases e
   exact .inl ⟨rfl,hi,rfl⟩
  ·rw[List.getElem?_set_ne (Ne.symm hj)] at e
   exact .inr ⟨hj,e⟩
 refine⟨s.ext,⟨s.st.fh,fun j sl e=>?_⟩,by simp[hl],fun j c a e e'=>?_,fun j k c c' a e1 e2 e3 e4=>?_⟩
 ·rcases get j sl e with⟨rfl,hi,rfl⟩ | ⟨hj,e⟩
  ·exact⟨v,by rw[List.getElem?_set_self (by omega)],h⟩
  ·obtain⟨u,h1,h2⟩:=s.st.den j sl e
   exact⟨u,by rw[List.getElem?_set_ne (Ne.symm hj)];exact h1,h2⟩
 ·rcases get j _ e with⟨_,_,z⟩ | ⟨hj,e⟩
  ·cases z
  ·rw[List.getElem?_set_ne (Ne.symm hj)] at e'
   exact s.own j c a e e'
 ·rcases get j _ e1 with⟨_,_,z⟩ | ⟨hj,e1⟩
  ·cases z
  ·rcases get k _ e2 with⟨_,_,z⟩ | ⟨hk,e2⟩
   ·cases z
   ·rw[List.getElem?_set_ne (Ne.symm hj)] at e3
    rw[List.getElem?_set_ne (Ne.symm hk)] at e4
    exact s.sep j k c c' a e1 e2 e3 e4
theorem StOk.setNew(s:StOk K F₀ H₀ F H σ ρ){i:Nat}{a:Addr}{o:HO}{c₀:C}(n:H a=none)(h:DenC K F c₀ o):
 StOk K F₀ H₀ F (upd H a o) (σ.set i (some (.ref a))) (ρ.set i (some (.ow c₀))):=by
 have hle:=s.len
 have e0:=Ext.free (o:=o) s.st.fh n
 have nF:F a=none:=Same.free s.st.fh n
 have get:∀(j:Nat) (sl:Sl),(ρ.set i (some (.ow c₀)))[j]? =some (some sl)→(j=i∧i<ρ.length∧sl= .ow c₀)∨(j≠i∧ρ[j]? =some (some sl)):=fun j sl e=>by
  by_cases hj:j=i
  ·subst hj
   have hi:j<ρ.length:=by
    have:=(List.getElem?_eq_some_iff.mp e).1
    simpa using this
   rw[List.getElem?_set_self hi] at e
   cases e
   exact .inl ⟨rfl,hi,rfl⟩
  ·rw[List.getElem?_set_ne (Ne.symm hj)] at e
   exact .inr ⟨hj,e⟩
 have old:∀(j:Nat) (c:C) (b:Addr),ρ[j]? =some (some (.ow c))→σ[j]? =some (some (.ref b))→b≠a:=fun j c b e e' z=>by
  obtain⟨u,h1,b',o,h2,h3,_⟩:=s.st.den j _ e
  rw[h1] at e'
  cases e'
  cases h2
  rw[z,n] at h3
  cases h3
 refine⟨s.ext.trans e0,⟨e0.fh,fun j sl e=>?_⟩,by simp[hle],fun j c b e e'=>?_,fun j k c c' b e1 e2 e3 e4=>?_⟩
 ·rcases get j sl e with⟨rfl,hi,rfl⟩ | ⟨hj,e⟩
  ·exact⟨.ref a,by rw[List.getElem?_set_self (by omega)],a,_,rfl,aD,nF,h⟩
  ·obtain⟨u,h1,h2⟩:=s.st.den j sl e
   exact⟨u,by rw[List.getElem?_set_ne (Ne.symm hj)];exact h1,h2.ext e0⟩
 ·rcases get j _ e with⟨rfl,hi,_⟩ | ⟨hj,e⟩
  ·rw[List.getElem?_set_self (by omega)] at e'
   cases e'
   exact Same.free s.ext.hh n
  ·rw[List.getElem?_set_ne (Ne.symm hj)] at e'
   exact s.own j c b e e'
 ·rcases get j _ e1 with⟨rfl,hi,_⟩ | ⟨hj,e1⟩
  ·rw[List.getElem?_set_self (by omega)] at e3
   cases e3
   rcases get k _ e2 with⟨rfl,_,_⟩ | ⟨hk,e2⟩
   ·rfl
   ·rw[List.getElem?_set_ne (Ne.symm hk)] at e4
    exact absurd rfl (old k c' a e2 e4)
  ·rcases get k _ e2 with⟨Kh,hi,_⟩ | ⟨hk,e2⟩
   ·rw[Kh,List.getElem?_set_self (by omega)] at e4
    cases e4
    rw[List.getElem?_set_ne (Ne.symm hj)] at e3
    exact absurd rfl (old j c a (by assumption) e3)
   ·rw[List.getElem?_set_ne (Ne.symm hj)] at e3
    rw[List.getElem?_set_ne (Ne.symm hk)] at e4
    exact s.sep j k c c' b e1 e2 e3 e4
theorem StOk.chg(s:StOk K F₀ H₀ F H σ ρ){i:Nat}{a:Addr}{c c₀:C}{o₀:HO}(hi:ρ[i]? =some (some (.ow c)))(ha:σ[i]? =some (some (.ref a)))(h:DenC K F c₀ o₀):
 StOk K F₀ H₀ F (upd H a o₀) σ (ρ.set i (some (.ow c₀))):=by
 have hle:=s.len
 have h0:=s.own i c a hi ha
 obtain⟨u,q1,a',o,q2,q3,q4,q5⟩:=s.st.den i _ hi
 rw[ha] at q1
 cases q1
 cases q2
 have G8:i<ρ.length:=(List.getElem?_eq_some_iff.mp hi).1
 have get:∀(j:Nat) (sl:Sl),(ρ.set i (some (.ow c₀)))[j]? =some (some sl)→(j=i∧sl= .ow c₀)∨(j≠i∧ρ[j]? =some (some sl)):=fun j sl e=>by
  by_cases hj:j=i
  ·subst hj
   rw[List.getElem?_set_self G8] at e
   cases e
   exact .inl ⟨rfl,rfl⟩
  ·rw[List.getElem?_set_ne (Ne.symm hj)] at e
   exact .inr ⟨hj,e⟩
 have fh:Same F (upd H a o₀):=fun b o e=>by
  rw[aw (fun z=>by rw[z,q4] at e;cases e)];exact s.st.fh b o e
 refine⟨⟨fun b o e=>?_,s.ext.ff,fh,s.ext.new⟩,⟨fh,fun j sl e=>?_⟩,by simp[hle],fun j c' b e e'=>?_,fun j k c1 c2 b e1 e2 e3 e4=>?_⟩
 ·rw[aw (fun z=>by rw[z,h0] at e;cases e)];exact s.ext.hh b o e
 ·rcases get j sl e with⟨rfl,rfl⟩ | ⟨hj,e⟩
  ·exact⟨.ref a,ha,a,_,rfl,aD,q4,h⟩
  ·obtain⟨u,h1,h2⟩:=s.st.den j sl e
   refine⟨u,h1,?_⟩
   cases sl with
   |fz d=>exact h2
   |ow c'=>
    obtain⟨b,o',r1,r2,r3,r4⟩:=h2
    refine⟨b,o',r1,?_,r3,r4⟩
    rw[aw (fun z=>hj (s.sep j i c' c a e hi (by rw[h1,r1,z]) ha))];exact r2
 ·rcases get j _ e with⟨rfl,_⟩ | ⟨hj,e⟩
  ·rw[ha] at e';cases e';exact h0
  ·exact s.own j c' b e e'
 ·have k1:∃c,ρ[j]? =some (some (.ow c)):=by
   rcases get j _ e1 with⟨rfl,_⟩ | ⟨_,e⟩
   ·exact⟨c,hi⟩
   ·exact⟨_,e⟩
  have k2:∃c,ρ[k]? =some (some (.ow c)):=by
   rcases get k _ e2 with⟨rfl,_⟩ | ⟨_,e⟩
   ·exact⟨c,hi⟩
   ·exact⟨_,e⟩
  obtain⟨_,k1⟩:=k1
  obtain⟨_,k2⟩:=k2
  exact s.sep j k _ _ b k1 k2 e3 e4
def frz(i:Nat)(ρ:aY):aY:=match ρ[i]? with
 |some (some (.ow c))=>ρ.set i (some (.fz c.d))
 |_=>ρ
theorem StOk.frz(s:StOk K F₀ H₀ F H σ ρ)(i:Nat)(obj:Addr→Obj):(∃a o,H a=some o∧DenC K F (ρ[i]?.elim (.lst []) fun x=>x.elim (.lst []) fun y=>match y with | .ow c=>c | _=> .lst []) o∧σ[i]? =some (some (.ref a))∧StOk K F₀ H₀ (upd F a (oQ (obj a) o)) (upd H a (oQ (obj a) o)) σ (frz i ρ))∨frz i ρ=ρ:=by
 unfold L3.frz
 split
 ·rename_i c₀ hi
  have hle:=s.len
  obtain⟨u,ha,a,o,rfl,q3,q4,vF⟩:=s.st.den i _ hi
  refine .inl ⟨a,o,q3,by rw[hi];exact vF,ha,?_⟩
  have h0:=s.own i _ a hi ha
  have G8:i<ρ.length:=(List.getElem?_eq_some_iff.mp hi).1
  have ff:Same F (upd F a (oQ (obj a) o)):=fun b o e=>by rw[aw (fun z=>by rw[z,q4] at e;cases e)];exact e
  have fh:Same (upd F a (oQ (obj a) o)) (upd H a (oQ (obj a) o)):=fun b o e=>by
   by_cases z:b=a
   ·rw[z,aD] at e⊢;exact e
   ·rw[aw z] at e⊢;exact s.st.fh b o e
  have get:∀(j:Nat) (sl:Sl),(ρ.set i (some (.fz c₀.d)))[j]? =some (some sl)→(j=i∧sl= .fz c₀.d)∨(j≠i∧ρ[j]? =some (some sl)):=fun j sl e=>by
   by_cases hj:j=i
   ·subst hj
    rw[List.getElem?_set_self G8] at e
    cases e
    exact .inl ⟨rfl,rfl⟩
   ·rw[List.getElem?_set_ne (Ne.symm hj)] at e
    exact .inr ⟨hj,e⟩
  refine⟨⟨fun b u q=>?_,s.ext.ff.trans ff,fh,fun b hb=>?_⟩,⟨fh,fun j sl e=>?_⟩,by simp[hle],fun j c' b e e'=>?_,fun j k c1 c2 b e1 e2 e3 e4=>?_⟩
  ·rw[aw (fun z=>by rw[z,h0] at q;cases q)];exact s.ext.hh b u q
  ·rcases s.ext.new b hb with q | q
   ·exact .inl (by rw[aw (fun z=>hb (by rw[z];exact h0))];exact q)
   ·exact .inr q
  ·rcases get j sl e with⟨rfl,rfl⟩ | ⟨hj,e⟩
   ·exact⟨.ref a,ha,DenC.den vF ff aD⟩
   ·obtain⟨u,h1,h2⟩:=s.st.den j sl e
    refine⟨u,h1,?_⟩
    cases sl with
    |fz d=>exact Den.mono ff h2
    |ow c'=>
     obtain⟨b,o',r1,r2,r3,r4⟩:=h2
     have mx:b≠a:=fun z=>hj (s.sep j i c' _ a e hi (by rw[h1,r1,z]) ha)
     exact⟨b,o',r1,by rw[aw mx];exact r2,by rw[aw mx];exact r3,DenC.mono ff r4⟩
  ·rcases get j _ e with⟨_,z⟩ | ⟨hj,e⟩
   ·cases z
   ·exact s.own j c' b e e'
  ·rcases get j _ e1 with⟨_,z⟩ | ⟨_,e1⟩
   ·cases z
   ·rcases get k _ e2 with⟨_,z⟩ | ⟨_,e2⟩
    ·cases z
    ·exact s.sep j k _ _ b e1 e2 e3 e4
 ·exact .inr rfl
end
def join(F H:Hp):Hp:=fun a=>match F a with
 |some o=>some o
 |none=>H a
theorem StOk.rebase{K:W.Frag}{F₀ H₀ F H:Hp}{σ:St}{ρ:aY}(s:StOk K F₀ H₀ F H σ ρ):StOk K F (join F H₀) F H σ ρ∧∀F' H',Ext F (join F H₀) F' H'→Ext F₀ H₀ F' H':=by
 have hj:Same (join F H₀) H:=fun b o e=>by
  unfold join at e
  cases q:F b with
  |some u=>rw[q] at e;cases e;exact s.st.fh b _ q
  |none=>rw[q] at e;exact s.ext.hh b o e
 have h0:Same H₀ (join F H₀):=fun b o e=>by
  unfold join
  cases q:F b with
  |some u=>
   have h1:=s.st.fh b u q
   rw[s.ext.hh b o e] at h1
   exact h1.symm
  |none=>exact e
 refine⟨⟨⟨hj,Same.refl _,s.st.fh,fun _ _=> .inl rfl⟩,s.st,s.len,fun i c a e e'=>?_,s.sep⟩,fun F' H' x=>⟨h0.trans x.hh,s.ext.ff.trans x.ff,x.fh,fun a ha=>?_⟩⟩
 ·have h1:=s.own i c a e e'
  obtain⟨v,q1,a',o,q2,q3,q4,_⟩:=s.st.den i _ e
  rw[e'] at q1
  cases q1
  cases q2
  unfold join
  rw[q4]
  exact h1
 ·have:join F H₀ a≠none:=by
   cases q:H₀ a with
   |none=>exact absurd q ha
   |some o=>rw[h0 a o q];exact fun z=>nomatch z
  rcases s.ext.new a ha with p | p
  ·rcases x.new a this with q | ⟨ts,q⟩
   ·exact .inl (q.trans p)
   ·cases z:H₀ a with
    |none=>exact absurd z ha
    |some o=>
     rw[h0 a o z] at q
     exact .inr ⟨ts,q⟩
  ·exact .inr p
theorem StOk.unbase{K:W.Frag}{F₀ H₀ F U F' H':Hp}{σ:St}{ρ:aY}(k:∀F' H',Ext F U F' H'→Ext F₀ H₀ F' H')(s:StOk K F U F' H' σ ρ)(h:Same H₀ U):StOk K F₀ H₀ F' H' σ ρ:=
 ⟨k _ _ s.ext,s.st,s.len,fun i c a e e'=>Same.free h (s.own i c a e e'),s.sep⟩
theorem vM{K:W.Frag}{F₀ H₀ F H:Hp}{σ:St}{ρ:aY}(s:StOk K F₀ H₀ F H σ ρ):Same H₀ (join F H₀):=fun b o e=>by
 unfold join
 cases q:F b with
 |some u=>
  have h1:=s.st.fh b u q
  rw[s.ext.hh b o e] at h1
  exact h1.symm
 |none=>exact e
theorem Inv.refrz{X:Cx}{pins:List (Addr×Obj)}{σ:St}{H:Hp}{s:Shared}{a:Addr}{o o':HO}(I:Inv X pins σ H s)(e:H a=some o)
 (ho:o'=o∨∃u,o'= .frz ((s.heap.get? a).getD {cls:= .none,data:= .fields #[]}) u∧((∃k,o= .dT k∧u= .dT k)∨∃k,o= .dK k∧u= .dK k)):Inv X pins σ (upd H a o') s:=by
 rcases ho with rfl | ⟨u,rfl,hu⟩
 ·have:upd H a o'=H:=by
   funext b
   by_cases z:b=a
   ·rw[z,aD,e]
   ·rw[aw z]
  rw[this];exact I
 have Km:o=u:=by rcases hu with⟨k,h1,h2⟩ | ⟨k,h1,h2⟩<;>rw[h1,h2]
 subst Km
 have nt:∀ts,o≠ .tup ts:=fun ts z=>by rcases hu with⟨k,h1,_⟩ | ⟨k,h1,_⟩<;>rw[h1] at z<;>cases z
 have nf:∀ob v,o≠ .frz ob v:=fun ob v z=>by rcases hu with⟨k,h1,_⟩ | ⟨k,h1,_⟩<;>rw[h1] at z<;>cases z
 have nb:∀p,o≠ .tbl p:=fun p z=>by rcases hu with⟨k,h1,_⟩ | ⟨k,h1,_⟩<;>rw[h1] at z<;>cases z
 have no:∀p,o≠ .own p:=fun p z=>by rcases hu with⟨k,h1,_⟩ | ⟨k,h1,_⟩<;>rw[h1] at z<;>cases z
 have ne:∀b,H b=none→b≠a:=fun b hb z=>by rw[z,e] at hb;cases hb
 have hk:=I.hok a o e
 have dz:=hk.lt
 obtain⟨ob,IZ⟩:∃ob,s.heap.get? a=some ob:=by
  rcases hu with⟨k,h1,_⟩ | ⟨k,h1,_⟩
  ·subst h1;obtain⟨_,_,_,_,ob,_,_,q,_⟩:=hk;exact⟨ob,q⟩
  ·subst h1;obtain⟨_,_,_,_,ob,_,_,q,_⟩:=hk;exact⟨ob,q⟩
 rw[IZ]
 refine⟨I.ok,I.os,I.bare,⟨I.base.keep,I.base.slot,fun b q h1 h2 h3=>?_,I.base.there,fun b xs q=>?_,fun b q1 v q=>?_,fun b ps q=>?_⟩,I.loc,I.cell,?_,fun x c q=>?_,fun p hp=>?_,fun b v q=>?_,I.len⟩
 ·have:=I.base.free b q h1 h2 h3
  rw[aw (ne b this)];exact this
 ·have:=I.base.tups b xs q
  rw[aw (fun z=>by rw[z,e] at this;exact nt xs (Option.some.inj this))];exact this
 ·have:=I.base.frzs b q1 v q
  rw[aw (fun z=>by rw[z,e] at this;exact nf _ _ (Option.some.inj this))];exact this
 ·obtain⟨m,this⟩:=I.base.tbls b ps q
  exact⟨m,by rw[aw (fun z=>by rw[z,e] at this;exact nb _ (Option.some.inj this))];exact this⟩
 ·rw[aw (ne _ I.free)];exact I.free
 ·rw[aw (ne _ (I.freeC x c q))];exact I.freeC x c q
 ·obtain⟨h1,h2,h3⟩:=I.pin p hp
  exact⟨h1,by rw[aw (ne _ h2)];exact h2,h3⟩
 ·have st:∀{c:Addr}{v:HO},ObjOk X.prog X.w H s.heap c v→ObjOk X.prog X.w (upd H a (.frz ob o)) s.heap c v:=fun {c v} k=>k.stay (fun _ _ _ q=>q)
   (fun c' q=>by rw[aw (fun z=>by rw[z,e] at q;exact no _ (Option.some.inj q))];exact q) fun c' xs q=>by rw[aw (fun z=>by rw[z,e] at q;exact nt _ (Option.some.inj q))];exact q
  by_cases z:b=a
  ·subst z
   rw[show (some ob).getD _=ob from rfl,aD] at q
   cases q
   exact⟨IZ,st hk⟩
  ·rw[aw z] at q
   exact st (I.hok b v q)
def aH(a b:DS):DS:=fun ρ=>a ρ>>=fun o=>match o with | .nx ρ'=>b ρ' | .rt d=>M.ret (.rt d)
def bT:DS:=fun ρ=>M.ret (.nx ρ)
def aS(δ:DE):DS:=fun ρ=>δ ρ>>=fun d=>M.ret (.rt d)
def fb(δ:DE):DS:=fun ρ=>δ ρ>>=fun _=>M.ret (.nx ρ)
def cG(i:Nat)(δ:DE):DS:=fun ρ=>δ ρ>>=fun d=>M.ret (.nx (ρ.set i (some (.fz d))))
def eu(c:DT)(a b:DS):DS:=fun ρ=>c ρ>>=fun x=>if x then a ρ else b ρ
def D6(i:Nat)(a:DS):DS:=fun ρ=>a (frz i ρ)
def AU(i:Nat):DS:=fun ρ=>M.ret (.nx (ρ.set i (some (.ow (.lst [])))))
def wd(ρ:aY)(i:Nat):Option (List D):=match ρ[i]? with
 |some (some (.ow (.lst ds)))=>some ds
 |_=>none
theorem nU{ρ:aY}{i:Nat}{ds:List D}(h:wd ρ i=some ds):ρ[i]? =some (some (.ow (.lst ds))):=by
 unfold wd at h
 split at h
 ·rename_i K7 e
  cases h
  exact e
 ·cases h
def rF(i:Nat)(δ:DE):DS:=fun ρ=>match wd ρ i with
 |some ds=>δ ρ>>=fun d=>if ds.length<lim then M.ret (.nx (ρ.set i (some (.ow (.lst (ds++[d])))))) else M.stuck
 |none=>M.stuck
def y0(i:Nat)(δ:DE):DS:=fun ρ=>match wd ρ i with
 |some ds=>δ ρ>>=fun d=>lstM d>>=fun es=>if ds.length+es.length≤lim then M.ret (.nx (ρ.set i (some (.ow (.lst (ds++es)))))) else M.stuck
 |none=>M.stuck
def forL(put:D→aY→Option aY)(body:DS):List D→DS
 |[],ρ=>M.ret (.nx ρ)
 |d::ds,ρ=>(match put d ρ with | none=>M.stuck | some ρ1=>body ρ1>>=fun o=>match o with | .nx ρ2=>forL put body ds ρ2 | .rt v=>M.ret (.rt v))
def putN(i:Nat):D→aY→Option aY:=fun d ρ=>some (ρ.set i (some (.fz d)))
def hX(put:D→aY→Option aY)(δi:DA)(body:DS):DS:=fun ρ=>δi ρ>>=fun ds=>forL put body ds ρ
section
variable{X:Cx}{Xw:Nat→Hp→Prop}{F₀ H₀:Hp}{st:Stmt}{rest:List Stmt}{τ τ':DS}{e:Expr}{δ:DE}{pos:Pos}
theorem aM:PSDs X Xw [] bT:=fun F₀ H₀=>PSs.weak AJ fun D σ H ⟨F,ρ,s,w⟩=>w σ F H s
theorem ao(h1:g0 X Xw st τ)(h2:PSDs X Xw rest τ'):PSDs X Xw (st::rest) (aH τ τ'):=fun F₀ H₀=>PSs.weak (yL (h1 F₀ H₀) (h2 F₀ H₀)) fun D σ H ⟨F,ρ,s,w⟩=>by
 refine⟨F,ρ,s,?_⟩
 unfold aH at w
 match τ ρ,w with
 |none,w=>exact w
 |some (.ok (.nx ρ')),w=>exact fun σ' F' H' s'=>⟨F',ρ',s',w⟩
 |some (.ok (.rt d)),w=>exact w
 |some (.ex n),w=>exact w
theorem aj(h1:g0 X Xw st τ):PSDs X Xw [st] τ:=fun F₀ H₀=>AK (h1 F₀ H₀)
theorem kH{i:Nat}(h:g0 X Xw st τ):g0 X Xw st (D6 i τ):=fun F₀ H₀ pins sh σ H D I ⟨F,ρ,s,w⟩=>by
 rcases s.frz i (fun a=>(sh.heap.get? a).getD {cls:= .none,data:= .fields #[]}) with⟨a,o,ha,hc,hσ,s'⟩ | e
 ·refine h F₀ H₀ pins sh σ _ D (L3.Inv.refrz I ha ?_) ⟨_,_,s',w⟩
  generalize (ρ[i]?.elim (C.lst []) fun x=>x.elim (.lst []) fun y=>match y with | .ow c=>c | _=> .lst [])=c at hc
  cases c with
  |lst ds=>obtain⟨vs,rfl,_⟩:=hc;exact .inl rfl
  |dct ks ds=>obtain⟨vs,rfl,_⟩:=hc;exact .inr ⟨_,rfl, .inl ⟨_,rfl,rfl⟩⟩
  |dci ks ds=>obtain⟨vs,rfl,_⟩:=hc;exact .inr ⟨_,rfl, .inr ⟨_,rfl,rfl⟩⟩
 ·exact h F₀ H₀ pins sh σ H D I ⟨F,ρ,s,by unfold D6 at w;rw[e] at w;exact w⟩
theorem av(h:PD X Xw e δ):g0 X Xw (.Return (some e) pos) (aS δ):=fun F₀ H₀=>PS.weak (Dr h) fun D σ H ⟨F,ρ,s,w⟩=>by
 refine⟨F,ρ,s.st,?_⟩
 unfold aS at w
 match δ ρ,w with
 |none,w=>exact w
 |some (.ok d),w=>exact fun v H' F' e' q=>w v F' H' (s.ext.trans e') q
 |some (.ex n),w=>exact fun F' H' e'=>w F' H' (s.ext.trans e')
theorem bN(h:PD X Xw e δ)(hs:swapsWith e none pos.line X.env=pure false:=by rfl):g0 X Xw (.Expr e pos) (fb δ):=fun F₀ H₀=>PS.weak (pG h hs) fun D σ H ⟨F,ρ,s,w⟩=>by
 refine⟨F,ρ,s.st,?_⟩
 unfold fb at w
 match δ ρ,w with
 |none,w=>exact w
 |some (.ok d),w=>exact fun v H' F' e' q=>w σ F' H' (s.ext' e')
 |some (.ex n),w=>exact fun F' H' e'=>w F' H' (s.ext.trans e')
theorem bt{i:Nat}{x:Str}{pos':Pos}(hN:X.N.Nodup)(hi:X.N[i]? =some x)(hx:Loc X.env.scope x)(he:PD X Xw e δ)(hf:X.fn x=true∨X.env.scope.names.lookup x=some .local:=by first | exact .inl rfl | exact .inr rfl)
 (hs:swapsWithSole [.Name x pos'] e pos.line X.env=pure false:=by rfl):
 g0 X Xw (.Assign [.Name x pos'] e pos) (cG i δ):=fun F₀ H₀=>PS.weak (tK he (cf hN hi hx hf) hs) fun D σ H ⟨F,ρ,s,w⟩=>by
 refine⟨F,ρ,s.st,?_⟩
 unfold cG at w
 match δ ρ,w with
 |none,w=>exact w
 |some (.ok d),w=>exact fun v H' F' e' q=>w _ F' H' ((s.ext' e').set q)
 |some (.ex n),w=>exact fun F' H' e'=>w F' H' (s.ext.trans e')
theorem rz{elt iter tg:Expr}{ifs:List Expr}{scope:Scope}{a5:Pos}{tn:List Str}{n:Nat}{δi:DA}{δt:DT}{δe:DE}{i:Nat}{x:Str}{pos':Pos}(hN:X.N.Nodup)(qa:X.N[i]? =some x)(hx:Loc X.env.scope x)
 (sc:CompSc X scope tn)(hn:tn.length=max n 1)(hc:X.calm=true)(hi:t_ X Xw tg iter δi)
 (hg:∀pins cl C fp s₂ H σ,vg (gM X scope tn pins cl C fp s₂ H) tg n σ)
 (ht:∀pins cl C fp s₂ H,i8 (gM X scope tn pins cl C fp s₂ H) ifs δt)
 (he:∀pins cl C fp s₂ H,PD (gM X scope tn pins cl C fp s₂ H) (fun _ _=>False) elt δe)
 (hf:X.fn x=true∨X.env.scope.names.lookup x=some .local:=by first | exact .inl rfl | exact .inr rfl)
 (Kt:swapsWith (.ListComp elt [⟨tg,iter,ifs,0⟩] scope a5) (some (.Name x pos')) pos.line X.env=pure true:=by rfl)
 (hs:∀x,foldedSetIterable iter X.env x=pure x:=by intro _;rfl):
 g0 X Xw (.Assign [.Name x pos'] (.ListComp elt [⟨tg,iter,ifs,0⟩] scope a5) pos) (cG i (aT n δi δt δe)):=fun F₀ H₀ pins s σ H D I ⟨F,ρ,S,w⟩=>by
 obtain⟨cl,xE,xi,DV⟩:=kX (scope:=scope) (env:=X.env) fun y hy hf=>I.ok.has y.1 (sc.frees y hy hf)
 have w':WP X.K Xw F H (aT n δi δt δe ρ) (fun v H'=>D.nx (σ.set i (some v)) H'):=by
  have w:WPS X.K Xw F₀ H₀ (aT n δi δt δe ρ>>=fun d=>M.ret (.nx (ρ.set i (some (.fz d))))) D:=w
  match aT n δi δt δe ρ,w with
  |none,w=>exact w
  |some (.ok d),w=>exact fun v H' F' e' q=>w _ F' H' ((S.ext' e').set q)
  |some (.ex n),w=>exact fun F' H' e'=>w F' H' (S.ext.trans e')
 rw[exec_Assign_Name_used _ _ _ _ Kt]
 refine wpAny_bind (wpAny_standAt (wpAny_bind ?_))
 show wpAny _ X.A (do let _←comprehension (.ListComp elt [⟨tg,iter,ifs,0⟩] scope a5) scope X.env _ (newList []) false (eval iter X.env) (some (assign (.Name x pos') X.env))) _ _ s
 refine wpAny_bind (wpAny_mono (wpAny_comprehension_free (use:=some (assign (.Name x pos') X.env)) (Q:=fun _ s'=>SP X pins D .next s') rfl hs xE sc.kind sc.names
  (qo (RR:=fun acc C=>compPost (model X.prog X.w) X.A X.xe (some (assign (.Name x pos') X.env)) (fun _ s'=>SP X pins D .next s') acc C) sc hn hc hi hg ht he I S.st w' xi DV fun s1 C D' H' I1 q b=>?_)) (fun _ s' hq=>wpAny_pure (wpAny_pure hq)) fun _ _ e=>e)
 show wpAny _ X.A (assign (.Name x pos') X.env (.ref D')) _ _ _
 refine wpAny_assign_Name (oh I1 hN qa hx (v:= .ref D') rfl (fun s2 I2 ⟨a,sb,ha⟩=>?_) hf)
 have JM:C≠a:=by
  rcases ha with z | z
  ·rw[z];exact b.nl
  ·exact Ne.symm (b.nc x a z)
 obtain⟨m,hm⟩:=b.ns
 have Ce:s2.heap.Ns C m:=hm.sameBut sb JM
 refine⟨m,Ce,fun h' zB=>⟨_,H',Inv.block I2 ⟨⟨m,Ce⟩,b.free,b.nl,b.nw,b.nc,b.np⟩ zB,q⟩⟩
theorem aX{c:Expr}{a b:List Stmt}{tc:DT}(hc:m7 X Xw c tc)(ha:PSDs X Xw a τ)(hb:PSDs X Xw b τ'):g0 X Xw (.If c a b pos) (eu tc τ τ'):=fun F₀ H₀=>PS.weak (Fx hc (ha F₀ H₀) (hb F₀ H₀)) fun D σ H ⟨F,ρ,s,w⟩=>by
 refine⟨F,ρ,s.st,?_⟩
 unfold eu at w
 match tc ρ,w with
 |none,w=>exact w
 |some (.ok true),w=>exact fun H' F' e'=>⟨F',ρ,s.ext' e',w⟩
 |some (.ok false),w=>exact fun H' F' e'=>⟨F',ρ,s.ext' e',w⟩
 |some (.ex n),w=>exact fun F' H' e'=>w F' H' (s.ext.trans e')
theorem pH{i:Nat}{x:Str}{pos' rq:Pos}(hN:X.N.Nodup)(hi:X.N[i]? =some x)(hx:Loc X.env.scope x)(hf:X.fn x=true∨X.env.scope.names.lookup x=some .local:=by first | exact .inl rfl | exact .inr rfl):
 g0 X Xw (.Assign [.Name x pos'] (.List [] rq) pos) (AU i):=fun F₀ H₀=>PS.weak (tK (yG pA) (cf hN hi hx hf) rfl) fun D σ H ⟨F,ρ,s,w⟩=>by
 refine⟨Nat.zero_le _,fun p hp=>?_⟩
 exact w _ F _ (s.setNew (c₀:= .lst []) hp ⟨[],rfl,rfl,Nat.zero_le _⟩)
def A9(K:W.Frag)(g:TG)(put:D→aY→Option aY):Prop:=∀(F₀ H₀ F H:Hp) (σ:St) (ρ ρ':aY) (d:D) (v:V) (Q:St→Hp→Prop),StOk K F₀ H₀ F H σ ρ→Den K F d v→put d ρ=some ρ'→
 (∀σ',StOk K F₀ H₀ F H σ' ρ'→Q σ' H)→g v σ H Q
theorem dj{K:W.Frag}{i:Nat}:A9 K (xC i) (putN i):=fun F₀ H₀ F H σ ρ ρ' d v Q s q e k=>by
 cases e
 exact k _ (s.set q)
def KZ(K:W.Frag)(Xw:Nat→Hp→Prop)(τ:DS):TS:=fun D σ H=>∃F₀ H₀,tS K Xw F₀ H₀ τ D σ H
theorem PSDs.ex{body:List Stmt}(h:PSDs X Xw body τ):PSs X body (KZ X.K Xw τ):=fun pins s σ H D I ⟨F₀,H₀,w⟩=>h F₀ H₀ pins s σ H D I w
theorem eg{tg iter:Expr}{body:List Stmt}{δi:DA}{g:TG}{put:D→aY→Option aY}(hp:PassesOwn (model X.prog X.w) X.A X.env X.xe)(hc:X.calm=true)(hi:t_ X Xw tg iter δi)(hg:PG X tg g)(Cq:A9 X.K g put)(hb:PSDs X Xw body τ)
 (hs:∀x,foldedSetIterable iter X.env x=pure x:=by intro _;rfl):g0 X Xw (.For tg iter body [] pos) (hX put δi τ):=fun F₀ H₀=>PS.weak (Dq hp hc hi hg hb.ex hs) fun D σ H ⟨F,ρ,s,w⟩=>by
 refine⟨F,ρ,s.st,?_⟩
 unfold hX at w
 match δi ρ,w with
 |none,w=>exact w
 |some (.ex n),w=>exact fun F' H' e'=>w F' H' (s.ext.trans e')
 |some (.ok ds),w=>
  have w:WPS X.K Xw F₀ H₀ (forL put τ ds ρ) D:=w
  intro J H1 F1 e1 Jh
  obtain⟨s1,back⟩:=(s.ext' e1).rebase
  have hU:=vM (s.ext' e1)
  generalize join F1 H₀=U at s1 back hU
  refine⟨fun i m σ H=>m=ds.length - i∧i≤ds.length∧∃F ρ,StOk X.K F1 U F H σ ρ∧WPS X.K Xw F₀ H₀ (forL put τ (ds.drop i) ρ) D,⟨ds.length,by simp,Nat.zero_le _,F1,ρ,s1,by simpa using w⟩,?_⟩
  rintro i m σ2 H2 ⟨rfl,G9,F2,ρ2,s2,w2⟩
  by_cases dz:i<ds.length
  ·obtain⟨d,hd⟩:∃d,ds[i]? =some d:=⟨_,List.getElem?_eq_getElem dz⟩
   obtain⟨G7,Cr⟩:=(Jh F2 H2 i s2.ext.ff s2.st.fh).1 d hd
   have ed:ds.drop i=d::ds.drop (i+1):=by
    obtain⟨hi,e⟩:=List.getElem?_eq_some_iff.mp hd
    rw[List.drop_eq_getElem_cons hi,e]
   rw[ed] at w2
   unfold forL at w2
   refine .inr ⟨G7,fun σ' H'=>∃F' ρ',StOk X.K F1 U F' H' σ' ρ'∧WPS X.K Xw F₀ H₀ (forL put τ (ds.drop (i+1)) ρ') D,fun σ' H' ⟨F',ρ',h2,h3⟩=>⟨ds.length - (i+1),by omega,rfl,dz,F',ρ',h2,h3⟩,fun x H3 y3=>?_⟩
   obtain⟨F3,zu,q3⟩:=Cr x H3 y3
   match Ko:put d ρ2,w2 with
   |none,w2=>exact w2.elim
   |some ρ3,w2=>
    refine Cq F1 U F3 H3 σ2 ρ2 ρ3 d x _ (s2.ext' zu) q3 Ko fun σ3 s3=>⟨F1,U,F3,ρ3,s3,?_⟩
    have w2:WPS X.K Xw F₀ H₀ (τ ρ3>>=fun o=>match o with | .nx ρ2=>forL put τ (ds.drop (i+1)) ρ2 | .rt v=>M.ret (.rt v)) D:=w2
    match τ ρ3,w2 with
    |none,w2=>exact w2
    |some (.ok (.nx ρ')),w2=>exact fun σ' F' H' s'=>⟨F',ρ',s',w2⟩
    |some (.ok (.rt d)),w2=>exact fun v F' H' e q=>w2 v F' H' (back _ _ e) q
    |some (.ex n),w2=>exact fun F' H' e=>w2 F' H' (back _ _ e)
  ·have hi:i=ds.length:=by omega
   subst hi
   rw[List.drop_length] at w2
   exact .inl ⟨(Jh F2 H2 ds.length s2.ext.ff s2.st.fh).2 (Nat.le_refl _),w2 σ2 F2 H2 (s2.unbase back hU)⟩
end
def gI(f:Int→Int→D):D→D→M D
 | .int i, .int j=>M.ret (f i j)
 |_,_=>M.stuck
def EA(c:Int→Int→Bool)(f:Int→Int→D):D→D→M D
 | .int i, .int j=>if c i j then M.ret (f i j) else M.stuck
 |_,_=>M.stuck
theorem uR{K:W.Frag}{gv:Int→Int→V}{gd:Int→Int→D}(h:∀F i j,Den K F (gd i j) (gv i j)):se K (u5 gv) (gI gd):=fun Xw F H x y dx dy Q s hx hy w=>by
 unfold gI at w
 split at w
 ·rename_i i j
  exact⟨i,j,hx,hy,WP.now w s (h F i j)⟩
 ·exact w.elim
theorem tw{K:W.Frag}{gv:Int→Int→V}{gd:Int→Int→D}{c:Int→Int→Bool}{C:Int→Int→Prop}(h:∀F i j,Den K F (gd i j) (gv i j))(hc:∀i j,c i j=true→C i j):se K (rI C gv) (EA c gd):=fun Xw F H x y dx dy Q s hx hy w=>by
 unfold EA at w
 split at w
 ·rename_i i j
  split at w
  ·rename_i Ga
   exact⟨i,j,hx,hy,hc i j Ga,WP.now w s (h F i j)⟩
  ·exact w.elim
 ·exact w.elim
def cI:=gI fun i j=> .int (i+j)
def sI:=gI fun i j=> .int (i - j)
def eT:=EA (fun i j=>decide ((-(2 ^ 64)<i∧i<2 ^ 64)∨(-(2 ^ 64)<j∧j<2 ^ 64))) fun i j=> .int (i*j)
def mG:=EA (fun _ j=>decide (0<j∧j<1073741824)) fun i j=> .int (i / j)
def iz:=EA (fun _ j=>decide (0<j)) fun i j=> .int (i % j)
def Iy:=gI fun i j=> .bl (decide (j<i))
section
variable{X:Cx}{Xw:Nat→Hp→Prop}{a b:Expr}{δa δb:DE}{pos:Pos}
theorem b7(ha:PD X Xw a δa)(hb:PD X Xw b δb):PD X Xw (.BinOp a .Add b pos) (d2 cI δa δb):=nZ CU (uR fun _ _ _=>rfl) ha hb
theorem pE(ha:PD X Xw a δa)(hb:PD X Xw b δb):PD X Xw (.BinOp a .Sub b pos) (d2 sI δa δb):=nZ C0 (uR fun _ _ _=>rfl) ha hb
theorem fZ(ha:PD X Xw a δa)(hb:PD X Xw b δb):PD X Xw (.BinOp a .Mult b pos) (d2 eT δa δb):=nZ CY (tw (fun _ _ _=>rfl) fun i j h=>by unfold CMul;exact of_decide_eq_true h) ha hb
theorem pC(ha:PD X Xw a δa)(hb:PD X Xw b δb):PD X Xw (.BinOp a .FloorDiv b pos) (d2 mG δa δb):=nZ Ai (tw (fun _ _ _=>rfl) fun i j h=>by unfold Ea;exact of_decide_eq_true h) ha hb
theorem jo(ha:PD X Xw a δa)(hb:PD X Xw b δb):PD X Xw (.BinOp a .Mod b pos) (d2 iz δa δb):=nZ CW (tw (fun _ _ _=>rfl) fun i j h=>of_decide_eq_true h) ha hb
theorem Fy(ha:PD X Xw a δa)(hb:PD X Xw b δb):m7 X Xw (.Compare a [.Gt] [b] pos) (b_ (d2 Iy δa δb)):=e_ Fo (uR fun _ _ _=>rfl) ha hb
def xy:D→D→M D
 | .lst ds, .int i=>match atI ds i with | some d=>M.ret d | none=>M.stuck
 |_,_=>M.stuck
def a8:D→D→M D
 | .tup ds, .int i=>match atI ds i with | some d=>M.ret d | none=>M.stuck
 |_,_=>M.stuck
def xA:D→D→M D
 | .scr ns, .int i=>match atI ns i with | some n=>M.ret (.int n) | none=>M.stuck
 |_,_=>M.stuck
def kq:D→D→M D
 | .str x, .int i=>match atI x.cps.toList i with | some c=>M.ret (.str ⟨#[c]⟩) | none=>M.stuck
 |_,_=>M.stuck
theorem DenL.atI{K:W.Frag}{F:Hp}{ds:List D}{vs:List V}(h:DenL K F ds vs){i:Int}{d:D}(e:L2.atI ds i=some d):∃v,L2.atI vs i=some v∧Den K F d v:=by
 unfold L2.atI at e⊢
 rw[←h.len]
 cases q:Cz ds.length i with
 |none=>rw[q] at e;cases e
 |some j=>
  rw[q] at e
  exact h.get e
theorem Ak{K:W.Frag}:se K (Dy K) xy:=fun Xw F H x y dx dy Q s hx hy w=>by
 unfold xy at w
 split at w
 ·rename_i ds i
  obtain⟨a,vs,h1,h2,h3,h4⟩:=hx
  split at w
  ·rename_i d e
   obtain⟨v,e1,q⟩:=h3.atI e
   exact⟨a,vs,i,v,h1,hy,SqL.of (s _ _ h2),e1,WP.now w s q⟩
  ·exact w.elim
 ·exact w.elim
theorem An{K:W.Frag}:se K (FH K) a8:=fun Xw F H x y dx dy Q s hx hy w=>by
 unfold a8 at w
 split at w
 ·rename_i ds i
  obtain⟨a,vs,h1,h2,h3,h4⟩:=hx
  split at w
  ·rename_i d e
   obtain⟨v,e1,q⟩:=h3.atI e
   exact⟨a,vs,i,v,h1,hy,SqT.of (s _ _ h2),e1,WP.now w s q⟩
  ·exact w.elim
 ·exact w.elim
theorem Al{K:W.Frag}:se K (Dy K) xA:=fun Xw F H x y dx dy Q s hx hy w=>by
 unfold xA at w
 split at w
 ·rename_i ns i
  obtain⟨a,h1,h2,h3⟩:=hx
  split at w
  ·rename_i n e
   refine⟨a,_,i, .int n,h1,hy,Same.seq s h2,?_,WP.now w s rfl⟩
   unfold L2.atI at e⊢
   rw[List.length_map]
   cases q:Cz ns.length i with
   |none=>rw[q] at e;cases e
   |some j=>
    rw[q] at e
    have e:ns[j]? =some n:=e
    show (ns.map V.int)[j]? =some (.int n)
    rw[List.getElem?_map,e];rfl
  ·exact w.elim
 ·exact w.elim
theorem Am{K:W.Frag}:se K FG kq:=fun Xw F H x y dx dy Q s hx hy w=>by
 unfold kq at w
 split at w
 ·rename_i z i
  obtain⟨h1,h2⟩:=hx
  split at w
  ·rename_i c e
   exact⟨z,i,c,h1,hy,by have:=cW;omega,e,WP.now w s ⟨rfl,by show 1≤lim;decide⟩⟩
  ·exact w.elim
 ·exact w.elim
theorem C5(ha:PD X Xw a δa)(hb:PD X Xw b δb)(hs:gr b:=by intro _ _;rfl):PD X Xw (.Subscript a b pos) (d2 xy δa δb):=uW uB Ak ha hb hs
theorem C6(ha:PD X Xw a δa)(hb:PD X Xw b δb)(hs:gr b:=by intro _ _;rfl):PD X Xw (.Subscript a b pos) (d2 xA δa δb):=uW uB Al ha hb hs
theorem bb(ha:PD X Xw a δa)(hb:PD X Xw b δb)(hs:gr b:=by intro _ _;rfl):PD X Xw (.Subscript a b pos) (d2 a8 δa δb):=uW CC An ha hb hs
theorem tF(ha:PD X Xw a δa)(hb:PD X Xw b δb)(hs:gr b:=by intro _ _;rfl):PD X Xw (.Subscript a b pos) (d2 kq δa δb):=uW CB Am ha hb hs
theorem gp(x y:Str):(x++y).length=x.length+y.length:=by
 show (x.cps++y.cps).size=_
 simp[Str.length]
end
end L3
namespace L3
open PySem PySem.Spec L2 SeqAt
open PyProof.Rows hiding St
def kD(f:D→D→Option Bool):List D→List D→Option Bool
 |[],[]=>some true
 |x::xs,y::ys=>match f x y,kD f xs ys with
  |some b,some r=>some (b&&r)
  |_,_=>none
 |[],_::_=>some false
 |_::_,[]=>some false
def sG:D→D→Option Bool
 | .non, .non=>some true
 | .bl a, .bl b=>some (a==b)
 | .bl a, .int j=>some ((if a then 1 else 0)==j)
 | .int i, .bl b=>some (i==(if b then 1 else 0))
 | .int i, .int j=>some (i==j)
 | .str x, .str y=>some (x==y)
 | .non, .bl _=>some false
 | .non, .int _=>some false
 | .non, .str _=>some false
 | .non, .lst _=>some false
 | .non, .tup _=>some false
 | .bl _, .non=>some false
 | .bl _, .str _=>some false
 | .bl _, .lst _=>some false
 | .bl _, .tup _=>some false
 | .int _, .non=>some false
 | .int _, .str _=>some false
 | .int _, .lst _=>some false
 | .int _, .tup _=>some false
 | .str _, .non=>some false
 | .str _, .bl _=>some false
 | .str _, .int _=>some false
 | .str _, .lst _=>some false
 | .str _, .tup _=>some false
 | .lst _, .non=>some false
 | .lst _, .bl _=>some false
 | .lst _, .int _=>some false
 | .lst _, .str _=>some false
 | .lst _, .tup _=>some false
 | .tup _, .non=>some false
 | .tup _, .bl _=>some false
 | .tup _, .int _=>some false
 | .tup _, .str _=>some false
 | .tup _, .lst _=>some false
 |_,_=>none
def fJ:Nat→D→D→Option Bool
 |n+1, .tup xs, .tup ys=>kD (fJ n) xs ys
 |n+1, .lst xs, .lst ys=>kD (fJ n) xs ys
 |n+1, .scr xs, .lst ys=>kD (fJ n) (xs.map D.int) ys
 |_,x,y=>sG x y
structure EqAll (A:Around) (s:Shared) (u v:Value) (b:Bool):Prop where
 rc:RcAt A s u v b
 ne:RcNeAt A s u v (!b)
 eq:EqAt A s u v b
section
variable{X:Cx}{pins:List (Addr×Obj)}{σ:St}{F H:Hp}{s:Shared}{A:Around}
theorem dq(I:Inv X pins σ H s)(hs:Same F H){ds:List D}{v:V}{u:Value}(h:Den X.K F (.tup ds) v)(r:RelV v u):∃a vs aA,u= .ref a∧v= .ref a∧F a=some (.tup vs)∧DenL X.K F ds vs∧Vals vs aA∧s.heap.IsTuple a aA.toArray:=by
 obtain⟨a,vs,rfl,h2,h3,h4⟩:=h
 obtain⟨aA,r1,p1,_⟩:=I.tuple (SqT.of (hs _ _ h2))
 exact⟨a,vs,aA,r,rfl,h2,h3,r1,p1⟩
theorem cX(I:Inv X pins σ H s)(hs:Same F H){ds:List D}{v:V}{u:Value}(h:Den X.K F (.lst ds) v)(r:RelV v u):∃a vs aA,u= .ref a∧v= .ref a∧F a=some (.lst vs)∧DenL X.K F ds vs∧Vals vs aA∧s.heap.IsList a aA.toArray:=by
 obtain⟨a,vs,rfl,h2,h3,h4⟩:=h
 obtain⟨aA,r1,p1,_⟩:=I.list (SqL.of (hs _ _ h2))
 exact⟨a,vs,aA,r,rfl,h2,h3,r1,p1.isList⟩
theorem DG(I:Inv X pins σ H s)(hs:Same F H){ns:List Int}{v:V}{u:Value}(h:Den X.K F (.scr ns) v)(r:RelV v u):∃a aA,u= .ref a∧v= .ref a∧SqL X.K F a (ns.map V.int)∧Vals (ns.map V.int) aA∧s.heap.IsList a aA.toArray:=by
 obtain⟨a,rfl,h2,h3⟩:=h
 obtain⟨aA,r1,p1,_⟩:=I.list (Same.seq hs h2)
 exact⟨a,aA,r,rfl,h2,r1,p1.isList⟩
theorem qy(I:Inv X pins σ H s)(hs:Same F H)(hu:A.units<cLine){x y:D}{v w:V}{u t:Value}{b:Bool}(hx:Den X.K F x v)(hy:Den X.K F y w)(rx:RelV v u)(ry:RelV w t)(e:sG x y=some b):EqAll A s u t b:=by
 cases x with
 |non=>
  cases y with
  |non=>
   cases e
   cases (show _=_ from hx)
   cases rx
   cases (show _=_ from hy)
   cases ry
   exact⟨RcAt.none_none,RcNeAt.none_none,EqAt.same _⟩
  |bl d=>
   cases e
   cases (show _=_ from hx)
   cases rx
   cases (show _=_ from hy)
   cases ry
   exact⟨RcAt.none_bool _,RcNeAt.none_bool _,EqAt.none_bool _⟩
  |int d=>
   cases e
   cases (show _=_ from hx)
   cases rx
   cases (show _=_ from hy)
   obtain⟨t2,rfl⟩:=ry
   exact⟨RcAt.none_int _ _,RcNeAt.none_int _ _,EqAt.none_int _ _⟩
  |str d=>
   cases e
   cases (show _=_ from hx)
   cases rx
   cases (show _=_ from hy.1)
   obtain⟨t2,rfl⟩:=ry
   exact⟨RcAt.none_str _ _,RcNeAt.none_str _ _,EqAt.none_str _ _⟩
  |raw d=>cases e
  |dct _ _=>cases e
  |dci _ _=>cases e
  |exc d=>cases e
  |scr d=>cases e
  |tup d=>
   cases e
   cases (show _=_ from hx)
   cases rx
   obtain⟨a2,_,_,rfl,_,_,_,_,p2⟩:=dq I hs hy ry
   exact⟨RcAt.none_tuple p2 hu,RcNeAt.none_tuple p2 hu,EqAt.none_tuple p2 hu⟩
  |lst d=>
   cases e
   cases (show _=_ from hx)
   cases rx
   obtain⟨a2,_,_,rfl,_,_,_,_,p2⟩:=cX I hs hy ry
   exact⟨RcAt.none_list p2 hu,RcNeAt.none_list p2 hu,EqAt.none_list p2 hu⟩
 |bl c=>
  cases y with
  |non=>
   cases e
   cases (show _=_ from hx)
   cases rx
   cases (show _=_ from hy)
   cases ry
   exact⟨RcAt.bool_none _,RcNeAt.bool_none _,EqAt.bool_none _⟩
  |bl d=>
   cases e
   cases (show _=_ from hx)
   cases rx
   cases (show _=_ from hy)
   cases ry
   exact⟨RcAt.bool_bool _ _,RcNeAt.bool_bool _ _,EqAt.bool_bool _ _⟩
  |int d=>
   cases e
   cases (show _=_ from hx)
   cases rx
   cases (show _=_ from hy)
   obtain⟨t2,rfl⟩:=ry
   exact⟨RcAt.bool_int _ _ _,RcNeAt.bool_int _ _ _,EqAt.bool_int _ _ _⟩
  |str d=>
   cases e
   cases (show _=_ from hx)
   cases rx
   cases (show _=_ from hy.1)
   obtain⟨t2,rfl⟩:=ry
   exact⟨RcAt.bool_str _ _ _,RcNeAt.bool_str _ _ _,EqAt.bool_str _ _ _⟩
  |raw d=>cases e
  |dct _ _=>cases e
  |dci _ _=>cases e
  |exc d=>cases e
  |scr d=>cases e
  |tup d=>
   cases e
   cases (show _=_ from hx)
   cases rx
   obtain⟨a2,_,_,rfl,_,_,_,_,p2⟩:=dq I hs hy ry
   exact⟨RcAt.bool_tuple _ p2 hu,RcNeAt.bool_tuple _ p2 hu,EqAt.bool_tuple _ p2 hu⟩
  |lst d=>
   cases e
   cases (show _=_ from hx)
   cases rx
   obtain⟨a2,_,_,rfl,_,_,_,_,p2⟩:=cX I hs hy ry
   exact⟨RcAt.bool_list _ p2 hu,RcNeAt.bool_list _ p2 hu,EqAt.bool_list _ p2 hu⟩
 |int c=>
  cases y with
  |non=>
   cases e
   cases (show _=_ from hx)
   obtain⟨t1,rfl⟩:=rx
   cases (show _=_ from hy)
   cases ry
   exact⟨RcAt.int_none _ _,RcNeAt.int_none _ _,EqAt.int_none _ _⟩
  |bl d=>
   cases e
   cases (show _=_ from hx)
   obtain⟨t1,rfl⟩:=rx
   cases (show _=_ from hy)
   cases ry
   exact⟨RcAt.int_bool _ _ _,RcNeAt.int_bool _ _ _,EqAt.int_bool _ _ _⟩
  |int d=>
   cases e
   cases (show _=_ from hx)
   obtain⟨t1,rfl⟩:=rx
   cases (show _=_ from hy)
   obtain⟨t2,rfl⟩:=ry
   exact⟨RcAt.int_int _ _ _ _,RcNeAt.int_int _ _ _ _,EqAt.int_int _ _ _ _⟩
  |str d=>
   cases e
   cases (show _=_ from hx)
   obtain⟨t1,rfl⟩:=rx
   cases (show _=_ from hy.1)
   obtain⟨t2,rfl⟩:=ry
   exact⟨RcAt.int_str _ _ _ _,RcNeAt.int_str _ _ _ _,EqAt.int_str _ _ _ _⟩
  |raw d=>cases e
  |dct _ _=>cases e
  |dci _ _=>cases e
  |exc d=>cases e
  |scr d=>cases e
  |tup d=>
   cases e
   cases (show _=_ from hx)
   obtain⟨t1,rfl⟩:=rx
   obtain⟨a2,_,_,rfl,_,_,_,_,p2⟩:=dq I hs hy ry
   exact⟨RcAt.int_tuple _ _ p2 hu,RcNeAt.int_tuple _ _ p2 hu,EqAt.int_tuple _ _ p2 hu⟩
  |lst d=>
   cases e
   cases (show _=_ from hx)
   obtain⟨t1,rfl⟩:=rx
   obtain⟨a2,_,_,rfl,_,_,_,_,p2⟩:=cX I hs hy ry
   exact⟨RcAt.int_list _ _ p2 hu,RcNeAt.int_list _ _ p2 hu,EqAt.int_list _ _ p2 hu⟩
 |str c=>
  cases y with
  |non=>
   cases e
   cases (show _=_ from hx.1)
   obtain⟨t1,rfl⟩:=rx
   cases (show _=_ from hy)
   cases ry
   exact⟨RcAt.str_none _ _,RcNeAt.str_none _ _,EqAt.str_none _ _⟩
  |bl d=>
   cases e
   cases (show _=_ from hx.1)
   obtain⟨t1,rfl⟩:=rx
   cases (show _=_ from hy)
   cases ry
   exact⟨RcAt.str_bool _ _ _,RcNeAt.str_bool _ _ _,EqAt.str_bool _ _ _⟩
  |int d=>
   cases e
   cases (show _=_ from hx.1)
   obtain⟨t1,rfl⟩:=rx
   cases (show _=_ from hy)
   obtain⟨t2,rfl⟩:=ry
   exact⟨RcAt.str_int _ _ _ _,RcNeAt.str_int _ _ _ _,EqAt.str_int _ _ _ _⟩
  |str d=>
   cases e
   cases (show _=_ from hx.1)
   obtain⟨t1,rfl⟩:=rx
   cases (show _=_ from hy.1)
   obtain⟨t2,rfl⟩:=ry
   exact⟨RcAt.str_str _ _ _ _,RcNeAt.str_str _ _ _ _,EqAt.str_str _ _ _ _⟩
  |raw d=>cases e
  |dct _ _=>cases e
  |dci _ _=>cases e
  |exc d=>cases e
  |scr d=>cases e
  |tup d=>
   cases e
   cases (show _=_ from hx.1)
   obtain⟨t1,rfl⟩:=rx
   obtain⟨a2,_,_,rfl,_,_,_,_,p2⟩:=dq I hs hy ry
   exact⟨RcAt.str_tuple _ _ p2 hu,RcNeAt.str_tuple _ _ p2 hu,EqAt.str_tuple _ _ p2 hu⟩
  |lst d=>
   cases e
   cases (show _=_ from hx.1)
   obtain⟨t1,rfl⟩:=rx
   obtain⟨a2,_,_,rfl,_,_,_,_,p2⟩:=cX I hs hy ry
   exact⟨RcAt.str_list _ _ p2 hu,RcNeAt.str_list _ _ p2 hu,EqAt.str_list _ _ p2 hu⟩
 |raw _=>cases y<;>cases e
 |dct _ _=>cases y<;>cases e
 |dci _ _=>cases y<;>cases e
 |exc _=>cases y<;>cases e
 |scr c=>cases y<;>cases e
 |tup c=>
  cases y with
  |non=>
   cases e
   obtain⟨a1,_,_,rfl,_,_,_,_,p1⟩:=dq I hs hx rx
   cases (show _=_ from hy)
   cases ry
   exact⟨RcAt.tuple_none p1 hu,RcNeAt.tuple_none p1 hu,EqAt.tuple_none p1 hu⟩
  |bl d=>
   cases e
   obtain⟨a1,_,_,rfl,_,_,_,_,p1⟩:=dq I hs hx rx
   cases (show _=_ from hy)
   cases ry
   exact⟨RcAt.tuple_bool _ p1 hu,RcNeAt.tuple_bool _ p1 hu,EqAt.tuple_bool _ p1 hu⟩
  |int d=>
   cases e
   obtain⟨a1,_,_,rfl,_,_,_,_,p1⟩:=dq I hs hx rx
   cases (show _=_ from hy)
   obtain⟨t2,rfl⟩:=ry
   exact⟨RcAt.tuple_int _ _ p1 hu,RcNeAt.tuple_int _ _ p1 hu,EqAt.tuple_int _ _ p1 hu⟩
  |str d=>
   cases e
   obtain⟨a1,_,_,rfl,_,_,_,_,p1⟩:=dq I hs hx rx
   cases (show _=_ from hy.1)
   obtain⟨t2,rfl⟩:=ry
   exact⟨RcAt.tuple_str _ _ p1 hu,RcNeAt.tuple_str _ _ p1 hu,EqAt.tuple_str _ _ p1 hu⟩
  |raw d=>cases e
  |dct _ _=>cases e
  |dci _ _=>cases e
  |exc d=>cases e
  |scr d=>cases e
  |tup d=>cases e
  |lst d=>
   cases e
   obtain⟨a1,_,_,rfl,_,_,_,_,p1⟩:=dq I hs hx rx
   obtain⟨a2,_,_,rfl,_,_,_,_,p2⟩:=cX I hs hy ry
   exact⟨RcAt.tuple_list p1 p2 hu,RcNeAt.tuple_list p1 p2 hu,EqAt.tuple_list p1 p2 hu⟩
 |lst c=>
  cases y with
  |non=>
   cases e
   obtain⟨a1,_,_,rfl,_,_,_,_,p1⟩:=cX I hs hx rx
   cases (show _=_ from hy)
   cases ry
   exact⟨RcAt.list_none p1 hu,RcNeAt.list_none p1 hu,EqAt.list_none p1 hu⟩
  |bl d=>
   cases e
   obtain⟨a1,_,_,rfl,_,_,_,_,p1⟩:=cX I hs hx rx
   cases (show _=_ from hy)
   cases ry
   exact⟨RcAt.list_bool _ p1 hu,RcNeAt.list_bool _ p1 hu,EqAt.list_bool _ p1 hu⟩
  |int d=>
   cases e
   obtain⟨a1,_,_,rfl,_,_,_,_,p1⟩:=cX I hs hx rx
   cases (show _=_ from hy)
   obtain⟨t2,rfl⟩:=ry
   exact⟨RcAt.list_int _ _ p1 hu,RcNeAt.list_int _ _ p1 hu,EqAt.list_int _ _ p1 hu⟩
  |str d=>
   cases e
   obtain⟨a1,_,_,rfl,_,_,_,_,p1⟩:=cX I hs hx rx
   cases (show _=_ from hy.1)
   obtain⟨t2,rfl⟩:=ry
   exact⟨RcAt.list_str _ _ p1 hu,RcNeAt.list_str _ _ p1 hu,EqAt.list_str _ _ p1 hu⟩
  |raw d=>cases e
  |dct _ _=>cases e
  |dci _ _=>cases e
  |exc d=>cases e
  |scr d=>cases e
  |tup d=>
   cases e
   obtain⟨a1,_,_,rfl,_,_,_,_,p1⟩:=cX I hs hx rx
   obtain⟨a2,_,_,rfl,_,_,_,_,p2⟩:=dq I hs hy ry
   exact⟨RcAt.list_tuple p1 p2 hu,RcNeAt.list_tuple p1 p2 hu,EqAt.list_tuple p1 p2 hu⟩
  |lst d=>cases e
end
def ev(f:D→D→Option Bool)(xs ys:List D)(j:Nat):Bool:=match xs[j]?,ys[j]? with
 |some x,some y=>(f x y).getD false
 |_,_=>false
theorem qx{f:D→D→Option Bool}:∀{xs ys:List D}{b:Bool},kD f xs ys=some b→∀(j:Nat) (x y:D),xs[j]? =some x→ys[j]? =some y→∃c,f x y=some c
 |[],_,_,_,_,_,_,h,_=>by simp at h
 |_::_,[],_,_,_,_,_,_,h=>by simp at h
 |x::xs,y::ys,b,e,j,x',y',hx,hy=>by
  unfold kD at e
  split at e
  ·rename_i b1 r1 e1 e2
   cases j with
   |zero=>simp at hx hy;subst hx hy;exact⟨_,e1⟩
   |succ j=>exact qx e2 j x' y' (by simpa using hx) (by simpa using hy)
  ·cases e
theorem oO{f:D→D→Option Bool}:∀{xs ys:List D}{b:Bool},kD f xs ys=some b→b=((List.range (min xs.length ys.length)).all (ev f xs ys)&&xs.length==ys.length)
 |[],[],_,e=>by cases e;rfl
 |[],_::_,_,e=>by cases e;simp
 |_::_,[],_,e=>by cases e;simp
 |x::xs,y::ys,b,e=>by
  unfold kD at e
  split at e
  ·rename_i b1 r1 e1 e2
   cases e
   have h:=oO e2
   rw[List.length_cons,List.length_cons,Nat.succ_min_succ,List.range_succ_eq_map,List.all_cons,List.all_map]
   have e0:ev f (x::xs) (y::ys) 0=b1:=by unfold ev;simp[e1]
   have e3:(ev f (x::xs) (y::ys)∘Nat.succ)=ev f xs ys:=by funext j;simp[ev,Function.comp]
   have e4:(xs.length+1==ys.length+1)=(xs.length==ys.length):=by simp
   rw[e0,e3,e4,h,Bool.and_assoc]
  ·cases e
section
variable{X:Cx}{pins:List (Addr×Obj)}{σ:St}{F H:Hp}{s:Shared}
theorem ir{f:D→D→Option Bool}(h:∀x y v b,Den X.K F x v→Den X.K F y v→f x y=some b→b=true):∀{xs ys:List D}{vs:List V}{b:Bool},DenL X.K F xs vs→DenL X.K F ys vs→kD f xs ys=some b→b=true
 |[],[],_,_,_,_,e=>by cases e;rfl
 |[],_::_,_,_,h1,h2,_=>by
  cases (show _=_ from h1)
  obtain⟨v,r,z,_⟩:=h2
  cases z
 |_::_,[],_,_,h1,h2,_=>by
  cases (show _=_ from h2)
  obtain⟨v,r,z,_⟩:=h1
  cases z
 |x::xs,y::ys,_,b,⟨v,r,e1,q1,q2⟩,⟨v',r',e2,q3,q4⟩,e=>by
  subst e1
  cases e2
  unfold kD at e
  split at e
  ·rename_i b1 r1 f1 f2
   cases e
   rw[h x y v b1 q1 q3 f1,ir h q2 q4 f2]
   rfl
  ·cases e
theorem nr{x y:D}{v:V}{b:Bool}(hx:Den X.K F x v)(hy:Den X.K F y v)(e:sG x y=some b):b=true:=by
 cases x<;>cases y<;>first
  |(cases e;done)
  |(cases e;cases (show _=_ from hx);cases (show _=_ from hy);first | rfl | simp)
  |(cases e;cases (show _=_ from hx.1);cases (show _=_ from hy.1);simp)
  |(cases e;cases (show _=_ from hx);cases (show _=_ from hy.1))
  |(cases e;cases (show _=_ from hx.1);cases (show _=_ from hy))
  |(cases e;obtain⟨_,_,z,_⟩:=hx;subst z;cases (show _=_ from hy);done)
  |(cases e;obtain⟨_,_,z,_⟩:=hx;subst z;cases (show _=_ from hy.1);done)
  |(cases e;obtain⟨_,z,_⟩:=hx;subst z;cases (show _=_ from hy);done)
  |(cases e;obtain⟨_,z,_⟩:=hx;subst z;cases (show _=_ from hy.1);done)
  |(cases e;obtain⟨_,_,z,_⟩:=hy;subst z;cases (show _=_ from hx);done)
  |(cases e;obtain⟨_,_,z,_⟩:=hy;subst z;cases (show _=_ from hx.1);done)
  |(cases e;obtain⟨_,z,_⟩:=hy;subst z;cases (show _=_ from hx);done)
  |(cases e;obtain⟨_,z,_⟩:=hy;subst z;cases (show _=_ from hx.1);done)
  |(cases e;obtain⟨_,_,z,h2,_⟩:=hx;obtain⟨_,_,z',Iz,_⟩:=hy;subst z;cases z';rw[h2] at Iz;cases Iz;done)
  |(cases e;cases (show _=_ from hx);cases (show _=_ from hy);done)
  |(cases e;cases (show _=_ from hx.1);cases (show _=_ from hy.1);done)
theorem iq(I:Inv X pins σ H s)(hs:Same F H):∀(n:Nat) (x y:D) (v:V) (b:Bool),Den X.K F x v→Den X.K F y v→fJ n x y=some b→b=true
 |0,x,y,v,b,hx,hy,e=>nr hx hy (by unfold fJ at e;exact e)
 |n+1,x,y,v,b,hx,hy,e=>by
  unfold fJ at e
  split at e
  ·rename_i xs ys _
   obtain⟨a,vs,rfl,h2,h3,_⟩:=hx
   obtain⟨a',wQ,z,k2,k3,_⟩:=hy
   cases z
   rw[h2] at k2
   cases k2
   exact ir (iq I hs _) h3 k3 (by simpa using e)
  ·rename_i xs ys _
   obtain⟨a,vs,rfl,h2,h3,_⟩:=hx
   obtain⟨a',wQ,z,k2,k3,_⟩:=hy
   cases z
   rw[h2] at k2
   cases k2
   exact ir (iq I hs _) h3 k3 (by simpa using e)
  ·rename_i xs ys _
   obtain⟨a,rfl,h2,_⟩:=hx
   obtain⟨a',wQ,z,k2,k3,_⟩:=hy
   cases z
   have hv:=I.list_inj (Same.seq hs h2) (SqL.of (hs _ _ k2))
   rw[←hv] at k3
   exact ir (iq I hs _) (DenL.ints xs) k3 (by simpa using e)
  ·exact nr hx hy e
theorem Vals.at{vs:List V}{aA:List Value}(r:Vals vs aA){j:Nat}(h:j<aA.toArray.size):∃v,vs[j]? =some v∧RelV v aA.toArray[j]:=by
 have hl:=r.length
 have hj:j<vs.length:=by rw[List.size_toArray] at h;omega
 obtain⟨u,e1,e2⟩:=r.get (List.getElem?_eq_getElem hj)
 refine⟨vs[j],List.getElem?_eq_getElem hj,?_⟩
 have:aA.toArray[j]=u:=by
  have:=(List.getElem?_eq_some_iff.mp e1).2
  simpa using this
 rw[this]
 exact e2
theorem kC{f:D→D→Option Bool}{A:Around}{xs ys:List D}{vs ws:List V}{aA eD:List Value}{b:Bool}(h1:DenL X.K F xs vs)(h2:DenL X.K F ys ws)(r1:Vals vs aA)(r2:Vals ws eD)(e:kD f xs ys=some b)
 (ih:∀x y v w u t c,Den X.K F x v→Den X.K F y w→RelV v u→RelV w t→f x y=some c→EqAt A s u t c):
 ∀j (k1:j<aA.toArray.size) (k2:j<eD.toArray.size),EqAt A s aA.toArray[j] eD.toArray[j] (ev f xs ys j):=fun j k1 k2=>by
 obtain⟨v,e1,q1⟩:=Vals.at r1 k1
 obtain⟨w,e2,q2⟩:=Vals.at r2 k2
 obtain⟨x,e3,q3⟩:=h1.at e1
 obtain⟨y,e4,q4⟩:=h2.at e2
 obtain⟨c,hc⟩:=qx e j x y e3 e4
 have:ev f xs ys j=c:=by unfold ev;rw[e3,e4];simp[hc]
 rw[this]
 exact ih x y v w _ _ c q3 q4 q1 q2 hc
theorem nK{f:D→D→Option Bool}{A:Around}(hu:A.units<cLine){xs ys:List D}{vs ws:List V}{aA eD:List Value}{b:Bool}{a a':Addr}(h1:DenL X.K F xs vs)(h2:DenL X.K F ys ws)(r1:Vals vs aA)(r2:Vals ws eD)
 (p1:s.heap.IsList a aA.toArray)(p2:s.heap.IsList a' eD.toArray)(e:kD f xs ys=some b)(hr:a=a'→b=true)
 (ih:∀x y v w u t c,Den X.K F x v→Den X.K F y w→RelV v u→RelV w t→f x y=some c→EqAt A.in1 s u t c):EqAll A s (.ref a) (.ref a') b:=by
 have l1:=h1.len
 have l2:=h2.len
 have l3:=r1.length
 have l4:=r2.length
 have hv:=oO e
 have core:RcAt A s (.ref a) (.ref a') b∧RcNeAt A s (.ref a) (.ref a') (!b):=by
  by_cases hl:xs.length=ys.length
  ·have hsz:aA.toArray.size=eD.toArray.size:=by rw[List.size_toArray,List.size_toArray];omega
   have hb:b=(List.range aA.toArray.size).all (ev f xs ys):=by
    rw[hv,hl,Nat.min_self,beq_self_eq_true,Bool.and_true]
    congr 2
    rw[List.size_toArray];omega
   rw[hb]
   exact⟨RcAt.lists p1 p2 hsz hu (kC h1 h2 r1 r2 e ih),RcNeAt.lists p1 p2 hsz hu (kC h1 h2 r1 r2 e ih)⟩
  ·have hb:b=false:=by rw[hv,show (xs.length==ys.length)=false from by simpa using hl,Bool.and_false]
   have hsz:(aA.toArray.size !=eD.toArray.size)=true:=by
    rw[List.size_toArray,List.size_toArray]
    simp
    omega
   rw[hb]
   exact⟨RcAt.lists_lengths p1 p2 hsz hu,RcNeAt.lists_lengths p1 p2 hsz hu⟩
 refine⟨core.1,core.2,?_⟩
 by_cases hq:a=a'
 ·rw[hr hq]
  subst hq
  exact EqAt.same _
 ·exact EqAt.of_refs hq core.1
theorem tV{f:D→D→Option Bool}{A:Around}(hu:A.units<cLine){xs ys:List D}{vs ws:List V}{aA eD:List Value}{b:Bool}{a a':Addr}(h1:DenL X.K F xs vs)(h2:DenL X.K F ys ws)(r1:Vals vs aA)(r2:Vals ws eD)
 (p1:s.heap.IsTuple a aA.toArray)(p2:s.heap.IsTuple a' eD.toArray)(e:kD f xs ys=some b)(hr:a=a'→b=true)
 (ih:∀x y v w u t c,Den X.K F x v→Den X.K F y w→RelV v u→RelV w t→f x y=some c→EqAt A.in1 s u t c):EqAll A s (.ref a) (.ref a') b:=by
 have l1:=h1.len
 have l2:=h2.len
 have l3:=r1.length
 have l4:=r2.length
 have hb:b=((List.range (min aA.toArray.size eD.toArray.size)).all (ev f xs ys)&&aA.toArray.size==eD.toArray.size):=by
  rw[oO e,List.size_toArray,List.size_toArray,←l3,←l4,←l1,←l2]
 have core:RcAt A s (.ref a) (.ref a') b∧RcNeAt A s (.ref a) (.ref a') (!b):=by
  rw[hb]
  exact⟨RcAt.tuples p1 p2 hu (kC h1 h2 r1 r2 e ih),RcNeAt.tuples p1 p2 hu (kC h1 h2 r1 r2 e ih)⟩
 refine⟨core.1,core.2,?_⟩
 by_cases hq:a=a'
 ·rw[hr hq]
  subst hq
  exact EqAt.same _
 ·exact EqAt.of_refs hq core.1
theorem oP(I:Inv X pins σ H s)(hs:Same F H):∀(n:Nat) (A:Around) (x y:D) (v w:V) (u t:Value) (b:Bool),A.units+n<cLine→Den X.K F x v→Den X.K F y w→RelV v u→RelV w t→fJ n x y=some b→EqAll A s u t b
 |0,A,x,y,v,w,u,t,b,hu,hx,hy,rx,ry,e=>qy I hs (by omega) hx hy rx ry (by unfold fJ at e;exact e)
 |n+1,A,x,y,v,w,u,t,b,hu,hx,hy,rx,ry,e=>by
  have Gg:A.units<cLine:=by omega
  have Ky:A.in1.units+n<cLine:=by show A.units+1+n<cLine;omega
  have hrefl:=iq (F:=F) I hs (n+1) x y
  have ih:∀x y v w u t c,Den X.K F x v→Den X.K F y w→RelV v u→RelV w t→fJ n x y=some c→EqAt A.in1 s u t c:=fun x y v w u t c q1 q2 q3 q4 q5=>(oP I hs n A.in1 x y v w u t c Ky q1 q2 q3 q4 q5).eq
  have e0:=e
  unfold fJ at e
  split at e
  ·rename_i xs ys heq
   cases heq
   obtain⟨a,vs,aA,rfl,Ew,h2,h3,r1,p1⟩:=dq I hs hx rx
   obtain⟨a',wQ,its',rfl,Ex,k2,k3,FA,Fq⟩:=dq I hs hy ry
   exact tV Gg h3 k3 r1 FA p1 Fq e (fun z=>by subst z;exact hrefl v b hx (by rw[Ew,←Ex];exact hy) e0) ih
  ·rename_i xs ys heq
   cases heq
   obtain⟨a,vs,aA,rfl,Ew,h2,h3,r1,p1⟩:=cX I hs hx rx
   obtain⟨a',wQ,its',rfl,Ex,k2,k3,FA,Fq⟩:=cX I hs hy ry
   exact nK Gg h3 k3 r1 FA p1 Fq e (fun z=>by subst z;exact hrefl v b hx (by rw[Ew,←Ex];exact hy) e0) ih
  ·rename_i xs ys heq
   cases heq
   obtain⟨a,aA,rfl,Ew,h2,r1,p1⟩:=DG I hs hx rx
   obtain⟨a',wQ,its',rfl,Ex,k2,k3,FA,Fq⟩:=cX I hs hy ry
   exact nK Gg (DenL.ints _) k3 r1 FA p1 Fq e (fun z=>by subst z;exact hrefl v b hx (by rw[Ew,←Ex];exact hy) e0) ih
  ·exact qy I hs Gg hx hy rx ry e
end
def mH(x y:D):M D:=match fJ 6 x y with | some b=>M.ret (.bl b) | none=>M.stuck
def fM(x y:D):M D:=match fJ 6 x y with | some b=>M.ret (.bl (!b)) | none=>M.stuck
def FD(K:W.Frag):R2:=fun x y H Q=>∃F dx dy b,Same F H∧Den K F dx x∧Den K F dy y∧fJ 6 dx dy=some b∧Q (.bl b) H
def FI(K:W.Frag):R2:=fun x y H Q=>∃F dx dy b,Same F H∧Den K F dx x∧Den K F dy y∧fJ 6 dx dy=some b∧Q (.bl (!b)) H
section
variable{X:Cx}{Xw:Nat→Hp→Prop}{a b:Expr}{δa δb:DE}{pos:Pos}
theorem yp(hu:X.A.units+64<cLine):OpR X (compareOp .Eq) (FD X.K):=by
 intro pins s σ H x y v u Q I rx ry h
 obtain⟨F,dx,dy,b,hs,hx,hy,e,q⟩:=h
 exact(oP I hs 6 X.A dx dy x y v u b (by omega) hx hy rx ry e).rc _ _ _ _ ⟨.bl b,H,I,rfl,q⟩
theorem CZ(hu:X.A.units+64<cLine):OpR X (compareOp .NotEq) (FI X.K):=by
 intro pins s σ H x y v u Q I rx ry h
 obtain⟨F,dx,dy,b,hs,hx,hy,e,q⟩:=h
 exact(oP I hs 6 X.A dx dy x y v u b (by omega) hx hy rx ry e).ne _ _ _ _ ⟨.bl (!b),H,I,rfl,q⟩
theorem yq{K:W.Frag}:se K (FD K) mH:=fun Xw F H x y dx dy Q s hx hy w=>by
 unfold mH at w
 split at w
 ·rename_i b e
  exact⟨F,dx,dy,b,s,hx,hy,e,WP.now w s rfl⟩
 ·exact w.elim
theorem C1{K:W.Frag}:se K (FI K) fM:=fun Xw F H x y dx dy Q s hx hy w=>by
 unfold fM at w
 split at w
 ·rename_i b e
  exact⟨F,dx,dy,b,s,hx,hy,e,WP.now w s rfl⟩
 ·exact w.elim
theorem yO(hu:X.A.units+64<cLine)(ha:PD X Xw a δa)(hb:PD X Xw b δb):m7 X Xw (.Compare a [.Eq] [b] pos) (b_ (d2 mH δa δb)):=e_ (yp hu) yq ha hb
theorem cN(hu:X.A.units+64<cLine)(ha:PD X Xw a δa)(hb:PD X Xw b δb):m7 X Xw (.Compare a [.NotEq] [b] pos) (b_ (d2 fM δa δb)):=e_ (CZ hu) C1 ha hb
theorem rl(hu:X.A.units+64<cLine)(ha:PD X Xw a δa)(hb:PD X Xw b δb):PD X Xw (.Compare a [.Eq] [b] pos) (d2 mH δa δb):=yw (yp hu) yq ha hb
end
def PDW(X:Cx)(Xw:Nat→Hp→Prop)(e:Expr)(δ:DT):Prop:=PW X e (H0 X.K Xw δ)
theorem PW.weak{X:Cx}{e:Expr}{t t':TT}(h:PW X e t)(k:∀σ H Q,t' σ H Q→t σ H Q):PW X e t':=fun wh pins s σ H Q I w=>h wh pins s σ H Q I (k σ H Q w)
section
variable{X:Cx}{Xw:Nat→Hp→Prop}{a b c:Expr}{rest:List Expr}{δa δb δc:DE}{τa τb:DT}{pos:Pos}
theorem yA(ha:m7 X Xw a τa):PDW X Xw (.BoolOp .And [a] pos) τa:=AN ha
theorem ef(ha:m7 X Xw a τa):PDW X Xw (.BoolOp .Or [a] pos) τa:=Dw ha
theorem Aw(ha:m7 X Xw a τa)(hb:PDW X Xw (.BoolOp .And (b::rest) pos) τb):PDW X Xw (.BoolOp .And (a::b::rest) pos) (vA τa τb):=PW.weak (Dv ha hb) fun σ H Q ⟨F,ρ,s,w⟩=>by
 refine⟨F,ρ,s,WPB.mono (WPB.bindB w) fun v H1 ⟨F1,e1,w1⟩=>?_⟩
 cases v with
 |true=>exact⟨F1,ρ,s.ext e1,w1⟩
 |false=>exact w1 _ _ (Ext.refl e1.fh)
theorem f7(ha:m7 X Xw a τa)(hb:PDW X Xw (.BoolOp .Or (b::rest) pos) τb):PDW X Xw (.BoolOp .Or (a::b::rest) pos) (jK τa τb):=PW.weak (Fz ha hb) fun σ H Q ⟨F,ρ,s,w⟩=>by
 refine⟨F,ρ,s,WPB.mono (WPB.bindB w) fun v H1 ⟨F1,e1,w1⟩=>?_⟩
 cases v with
 |false=>exact⟨F1,ρ,s.ext e1,w1⟩
 |true=>exact w1 _ _ (Ext.refl e1.fh)
theorem PDW.t(h:PDW X Xw a τa):m7 X Xw a τa:=PW.pt h
theorem cx(ha:m7 X Xw a τa):m7 X Xw (.UnaryOp .Not a pos) (b5 τa):=PT.weak (Du ha) fun σ H Q ⟨F,ρ,s,w⟩=>
 ⟨F,ρ,s,WPB.mono (WPB.bindB w) fun v H1 ⟨F1,e1,w1⟩=>w1 _ _ (Ext.refl e1.fh)⟩
def rS:D→M Bool
 | .non=>M.ret false
 | .bl b=>M.ret b
 | .lst ds=>M.ret (!ds.isEmpty)
 | .tup ds=>M.ret (!ds.isEmpty)
 |_=>M.stuck
def bY(δ:DE):DT:=fun ρ=>δ ρ>>=rS
theorem DenL.isEmpty{K:W.Frag}{F:Hp}{ds:List D}{vs:List V}(h:DenL K F ds vs):ds.isEmpty=vs.isEmpty:=by
 have:=h.len
 cases ds<;>cases vs<;>simp_all
theorem cM(ha:PD X Xw a δa)(he:∀whole,isTrue a X.env whole=(do let v←whole;standAt a.pos;holding [v] (truthy v)):=by intro _;rfl):m7 X Xw a (bY δa):=PT.weak (yP ha he) fun σ H Q ⟨F,ρ,s,w⟩=>by
 refine⟨F,ρ,s,WP.mono (WPB.bind (K:=X.K) w) fun v H1 ⟨F1,d,e1,q1,w1⟩=>?_⟩
 cases d with
 |non=>cases (show _=_ from q1);exact⟨false,rfl,w1 _ _ (Ext.refl e1.fh)⟩
 |bl b=>cases (show _=_ from q1);exact⟨b,rfl,w1 _ _ (Ext.refl e1.fh)⟩
 |lst ds=>
  obtain⟨a,vs,rfl,h2,h3,_⟩:=q1
  exact⟨!ds.isEmpty, .inl ⟨vs,SqL.of (e1.fh _ _ h2),by rw[h3.isEmpty]⟩,w1 _ _ (Ext.refl e1.fh)⟩
 |tup ds=>
  obtain⟨a,vs,rfl,h2,h3,_⟩:=q1
  exact⟨!ds.isEmpty, .inr (.inl ⟨vs,SqT.of (e1.fh _ _ h2),by rw[h3.isEmpty]⟩),w1 _ _ (Ext.refl e1.fh)⟩
 |_=>exact w1.elim
theorem tH{op}(h:PD X Xw a δa):PD X Xw (.BoolOp op [a] pos) δa:=Dg h
theorem pB(ha:PD X Xw a δa)(hb:PD X Xw (.BoolOp .And (b::rest) pos) δb):PD X Xw (.BoolOp .And (a::b::rest) pos) (dI δa δb):=PE.weak (Dc ha hb) fun σ H Q ⟨F,ρ,s,w⟩=>by
 refine⟨F,ρ,s,WP.mono (WP.bind w) fun v H1 ⟨F1,d,e1,q1,w1⟩=>?_⟩
 cases d with
 |bl k=>
  refine⟨k,q1,?_⟩
  cases k with
  |true=>exact⟨F1,ρ,s.ext e1,w1⟩
  |false=>exact WP.now w1 e1.fh rfl
 |_=>exact w1.elim
theorem C8(ha:PD X Xw a δa):PD X Xw (.UnaryOp .Not a pos) (Be δa):=PE.weak (Df ha) fun σ H Q ⟨F,ρ,s,w⟩=>by
 refine⟨F,ρ,s,WP.mono (WP.bind w) fun v H1 ⟨F1,d,e1,q1,w1⟩=>?_⟩
 cases d with
 |bl k=>exact⟨k,q1,WP.now w1 e1.fh rfl⟩
 |_=>exact w1.elim
theorem Fs(hc:m7 X Xw c τa)(ha:PD X Xw a δa)(hb:PD X Xw b δb):PD X Xw (.IfExp c a b pos) (Bd τa δa δb):=PE.weak (yF hc ha hb) fun σ H Q ⟨F,ρ,s,w⟩=>by
 refine⟨F,ρ,s,WPB.mono (WP.bindB w) fun v H1 ⟨F1,e1,w1⟩=>?_⟩
 cases v with
 |true=>exact⟨F1,ρ,s.ext e1,w1⟩
 |false=>exact⟨F1,ρ,s.ext e1,w1⟩
def sx(p q:Int→Int→Bool)(a b c:DE):DE:=fun ρ=>a ρ>>=fun x=>b ρ>>=fun y=>match x,y with
 | .int i, .int j=>if p i j then c ρ>>=fun z=>gI (fun i j=> .bl (q i j)) y z else M.ret (.bl false)
 |_,_=>M.stuck
theorem oj{p q:Int→Int→Bool}:∀σ H Q,tD X.K Xw (sx p q δa δb δc) σ H Q→tU (u5 fun i j=> .bl (p i j)) (u5 fun i j=> .bl (q i j)) (tD X.K Xw δa) (tD X.K Xw δb) (tD X.K Xw δc) σ H Q:=fun σ H Q ⟨F,ρ,s,w⟩=>by
 refine⟨F,ρ,s,WP.mono (WP.bind w) fun v H1 ⟨F1,d,e1,q1,w1⟩=>?_⟩
 refine⟨F1,ρ,s.ext e1,WP.mono (WP.bind w1) fun u H2 ⟨F2,d',e2,q2,w2⟩=>?_⟩
 cases d with
 |int i=>
  cases d' with
  |int j=>
   refine⟨i,j,q1,q2,p i j,rfl,?_⟩
   have w2:WP X.K Xw F2 H2 (if p i j then δc ρ>>=fun z=>gI (fun i j=> .bl (q i j)) (.int j) z else M.ret (.bl false)) Q:=w2
   cases hp:p i j with
   |false=>
    rw[hp] at w2
    exact WP.now w2 e2.fh rfl
   |true=>
    rw[hp] at w2
    refine⟨F2,ρ,(s.ext e1).ext e2,WP.mono (WP.bind w2) fun u' H3 ⟨F3,JB,e3,q3,w3⟩=>?_⟩
    exact uR (K:=X.K) (gv:=fun i j=> .bl (q i j)) (gd:=fun i j=> .bl (q i j)) (fun _ _ _=>rfl) Xw F3 H3 u u' (.int j) JB Q e3.fh q2 q3 w3
  |_=>exact w2.elim
 |_=>exact w2.elim
theorem yu{op tu:CmpOp}{p q:Int→Int→Bool}(ho:OpR X (compareOp op) (u5 fun i j=> .bl (p i j)))(nz:OpR X (compareOp tu) (u5 fun i j=> .bl (q i j)))(ha:PD X Xw a δa)(hb:PD X Xw b δb)(hc:PD X Xw c δc)
 (hm:lastMarks [op,tu] [b,c]=false:=by with_unfolding_all rfl):PD X Xw (.Compare a [op,tu] [b,c] pos) (sx p q δa δb δc):=PE.weak (yD ho nz ha hb hc hm) oj
theorem yM{op tu:CmpOp}{p q:Int→Int→Bool}(ho:OpR X (compareOp op) (u5 fun i j=> .bl (p i j)))(nz:OpR X (compareOp tu) (u5 fun i j=> .bl (q i j)))(ha:PD X Xw a δa)(hb:PD X Xw b δb)(hc:PD X Xw c δc)
 (hm:lastMarks [op,tu] [b,c]=false:=by with_unfolding_all rfl):m7 X Xw (.Compare a [op,tu] [b,c] pos) (b_ (sx p q δa δb δc)):=PT.weak (yN ho nz ha hb hc hm) fun σ H Q ⟨F,ρ,s,w⟩=>by
 refine oj σ H _ ⟨F,ρ,s,WP.mono (WPB.bind w) fun v H1 ⟨F1,d,e1,q1,w1⟩=>?_⟩
 cases d with
 |bl k=>exact⟨k,q1,w1 _ _ (Ext.refl e1.fh)⟩
 |_=>exact w1.elim
def qb(K:W.Frag)(r:List V→Hp→VK→Prop)(g:List D→M D):Prop:=∀(Xw:Nat→Hp→Prop) (F H:Hp) (vs:List V) (ds:List D) (Q:VK),Same F H→DenL K F ds vs→WP K Xw F H (g ds) Q→r vs H Q
variable{x:Str}{p:Pos}{e:Expr}{es:List Expr}{δs:DA}{id T:String}{r:List V→Hp→VK→Prop}{g:List D→M D}
theorem zg(h:qb X.K r g):∀σ H Q,tD X.K Xw (dA g δs) σ H Q→HY r (Js X.K Xw δs) σ H Q:=fun σ H Q ⟨F,ρ,s,w⟩=>
 ⟨F,ρ,s,WPL.mono (WP.bindL w) fun vs H1 ⟨F1,ds,e1,q1,w1⟩=>h Xw F1 H1 vs ds Q e1.fh q1 w1⟩
theorem dg(hc:CallR X (.builtin id) r)(hd:qb X.K r g)(hg:Gl X x)(hm:X.mg x=none)(hv:bootBuiltins x=some (.builtin id))(ha:ko X Xw (e::es) δs)(hn:x≠"__name__":=by decide)(oR:(x==("__debug__":Str))=false:=by decide)
 (he:starEach (e::es) X.env=(false,eval e X.env)::starEach es X.env:=by rfl)(lh:(backTo pos (starEach es X.env)).any (·.1)=false:=by rfl):PD X Xw (.Call (.Name x p) (e::es) [] pos) (dA g δs):=
 PE.weak (yC hc hg hm hv ha hn oR he lh) (zg hd)
theorem nY(hc:CallR X (.type T) r)(hd:qb X.K r g)(hg:Gl X x)(hm:X.mg x=none)(hv:bootBuiltins x=some (.type T))(ha:ko X Xw (e::es) δs)(hn:x≠"__name__":=by decide)(oR:(x==("__debug__":Str))=false:=by decide)
 (he:starEach (e::es) X.env=(false,eval e X.env)::starEach es X.env:=by rfl)(lh:(backTo pos (starEach es X.env)).any (·.1)=false:=by rfl):PD X Xw (.Call (.Name x p) (e::es) [] pos) (dA g δs):=
 PE.weak (wj hc hg hm hv ha hn oR he lh) (zg hd)
def aR:List D→M D
 |[.lst ds]=>M.ret (.int ds.length)
 |[.tup ds]=>M.ret (.int ds.length)
 |[.str x]=>M.ret (.int x.length)
 |[.scr ns]=>M.ret (.int ns.length)
 |_=>M.stuck
theorem vR:qb X.K (fun xs H Q=>(∃p ys,xs=[.ref p]∧(SqL X.K H p ys∨SqT X.K H p ys)∧Q (.int ys.length) H)∨∃z,xs=[.str z]∧z.length≤sizeLine∧Q (.int z.length) H) aR:=fun Xw F H vs ds Q s h w=>by
 unfold aR at w
 split at w
 ·obtain⟨v,rfl,h1⟩:=h.one
  obtain⟨a,vs,rfl,h2,h3,_⟩:=h1
  exact .inl ⟨a,vs,rfl, .inl (SqL.of (s _ _ h2)),by rw[←h3.len];exact WP.now w s rfl⟩
 ·obtain⟨v,rfl,h1⟩:=h.one
  obtain⟨a,vs,rfl,h2,h3,_⟩:=h1
  exact .inl ⟨a,vs,rfl, .inr (SqT.of (s _ _ h2)),by rw[←h3.len];exact WP.now w s rfl⟩
 ·obtain⟨v,rfl,h1⟩:=h.one
  cases (show _=_ from h1.1)
  exact .inr ⟨_,rfl,by have:=h1.2;have:=cW;omega,WP.now w s rfl⟩
 ·obtain⟨v,rfl,h1⟩:=h.one
  obtain⟨a,rfl,h2,_⟩:=h1
  exact .inl ⟨a,_,rfl, .inl (Same.seq s h2),by rw[List.length_map];exact WP.now w s rfl⟩
 ·exact w.elim
theorem aW(hg:Gl X "len")(hm:X.mg "len"=none)(ha:ko X Xw [e] δs)(he:starEach [e] X.env=[(false,eval e X.env)]:=by rfl):PD X Xw (.Call (.Name "len" p) [e] [] pos) (dA aR δs):=
 dg (oE.or oF) vR hg hm PySem.boot_len ha (by decide) (by decide) he rfl
def wU:List D→M D
 |[.int i]=>M.ret (.int (if i<0 then -i else i))
 |_=>M.stuck
def sT:List D→M D
 |[.int i, .int j]=>M.ret (.int (if j>i then j else i))
 |_=>M.stuck
def vY:List D→M D
 |[.int i, .int j]=>M.ret (.int (if j<i then j else i))
 |_=>M.stuck
theorem yt(hg:Gl X "abs")(hm:X.mg "abs"=none)(ha:ko X Xw [e] δs)(hb:bootBuiltins "abs"=some (.builtin "abs"))(he:starEach [e] X.env=[(false,eval e X.env)]:=by rfl):PD X Xw (.Call (.Name "abs" p) [e] [] pos) (dA wU δs):=
 dg xb (fun Xw F H vs ds Q s h w=>by
  unfold wU at w
  split at w
  ·obtain⟨v,rfl,h1⟩:=h.one
   cases (show _=_ from h1)
   exact⟨_,rfl,WP.now w s rfl⟩
  ·exact w.elim) hg hm hb ha (by decide) (by decide) he rfl
end
theorem WP.xw{K:W.Frag}{Xw Xw':Nat→Hp→Prop}{F H:Hp}{m:M D}{Q:VK}(h:WP K Xw F H m Q)(k:∀n H,Xw n H→Xw' n H):WP K Xw' F H m Q:=by
 match m,h with
 |none,h=>exact h
 |some (.ok d),h=>exact h
 |some (.ex n),h=>exact fun F' H' e=>k n H' (h F' H' e)
theorem e9{X:Cx}{Xw:Nat→Hp→Prop}{st:Stmt}{τ:DS}(h:g0 X.nox (fun _ _=>False) st τ):g0 X Xw st (fun ρ=>noex (τ ρ)):=fun F₀ H₀ pins s σ H D I ⟨F,ρ,S,w⟩=>by
 have w:WPS X.K Xw F₀ H₀ (noex (τ ρ)) D:=w
 have w':tS X.K (fun _ _=>False) F₀ H₀ τ D σ H:=by
  refine⟨F,ρ,S,?_⟩
  rcases(τ ρ).cs with e | ⟨n,e⟩ | ⟨o,e⟩
  ·rw[e] at w;exact w.elim
  ·rw[e] at w;exact w.elim
  ·rw[e] at w⊢
   cases o with
   |nx ρ'=>exact w
   |rt d=>exact w
 refine wpAny_mono (h F₀ H₀ pins s σ H D (I.wish _) w') (fun f s' q=>SP.unwish q) fun _ _ z=>z.elim
def EX(cv:Nat→Value)(Xw:Nat→Hp→Prop):XK:=fun c _ H=>∃n,c=cv n∧Xw n H
def D8(K:W.Frag)(cv:Nat→Value)(k:Nat)(f:List D→M D):Sp:=fun vs H Q E=>∃F ds,Same F H∧DenL K F ds vs∧vs.length=k∧WP K (fun n H'=>E (cv n) none H') F H (f ds) Q
def bJ(n:Nat)(τ:DS):List D→M D:=fun ds=>τ (ds.map (fun d=>some (Sl.fz d))++List.replicate (n - ds.length) none)>>=fun o=>match o with
 | .nx _=>M.ret .non
 | .rt d=>M.ret d
section
variable{P:Program}{w:World}{K:W.Frag}{mg:Str→Option Value}{base:Heap}{CX:sf}{cv:Nat→Value}
theorem Ey{x qual:Str}{st:Stmt}{f:Addr}{fd:FuncData}{N ps:List Str}{k:Nat}{τ:DS}(Fn:Fun K x qual st f fd)(S:FnScope N ps (af st))
 (qB:∀(bp:Value) (A:Around) (outer:List Env) (s:Shared) (H:Hp) (E:XK),Room k (A.deeper (envOfC qual (af st) s.heap.objs.size f bp))→
  PSDs (de CX P w K mg base N qual (af st) f bp A outer s H E) (fun n H'=>E (cv n) none H') (aO st) τ):FnOk P w K mg base CX (k+1) f fd ps (D8 K cv ps.length (bJ N.length τ)):=by
 obtain⟨oc,od,kV,doc,pm,an,bp,ct,BF,rfl,lk,wN⟩:=Fn.ex
 refine Ez lk wN S (fun vs H Q E ⟨_,_,_,_,hl,_⟩=>hl) fun A outer s H vs Q E hr Bw=>?_
 obtain⟨F,ds,fh,hd,hl,hw⟩:=Bw
 refine⟨_,qB bp A outer s H E hr F H,F,ds.map (fun d=>some (Sl.fz d))++List.replicate (N.length - ds.length) none,⟨Ext.refl fh,⟨fh,fun i sl e=>?_⟩,?_,fun i c a e=>?_,fun i j c c' a e=>?_⟩,?_⟩
 ·have hlen:=hd.len
  by_cases hi:i<ds.length
  ·rw[List.getElem?_append_left (by simpa using hi),List.getElem?_map] at e
   cases q:ds[i]? with
   |none=>rw[q] at e;cases e
   |some d=>
    rw[q] at e
    cases e
    obtain⟨v,e1,e2⟩:=hd.get q
    refine⟨v,?_,e2⟩
    unfold L2.start
    rw[List.getElem?_append_left (by simp;omega),List.getElem?_map,e1]
    rfl
  ·rw[List.getElem?_append_right (by simpa using hi),List.getElem?_replicate] at e
   split at e<;>cases e
 ·have hlen:=hd.len
  unfold L2.start
  simp[hlen]
 ·exfalso
  by_cases hi:i<ds.length
  ·rw[List.getElem?_append_left (by simpa using hi),List.getElem?_map] at e
   cases q:ds[i]? with
   |none=>rw[q] at e;cases e
   |some d=>rw[q] at e;cases e
  ·rw[List.getElem?_append_right (by simpa using hi),List.getElem?_replicate] at e
   split at e<;>cases e
 ·exfalso
  by_cases hi:i<ds.length
  ·rw[List.getElem?_append_left (by simpa using hi),List.getElem?_map] at e
   cases q:ds[i]? with
   |none=>rw[q] at e;cases e
   |some d=>rw[q] at e;cases e
  ·rw[List.getElem?_append_right (by simpa using hi),List.getElem?_replicate] at e
   split at e<;>cases e
 ·have hw:WP K (fun n H'=>E (cv n) none H') F H (τ (ds.map (fun d=>some (Sl.fz d))++List.replicate (N.length - ds.length) none)>>=fun o=>match o with | .nx _=>M.ret .non | .rt d=>M.ret d) Q:=hw
  rcases(τ (ds.map (fun d=>some (Sl.fz d))++List.replicate (N.length - ds.length) none)).cs with e | ⟨n,e⟩ | ⟨o,e⟩
  ·rw[e] at hw;exact hw.elim
  ·rw[e] at hw⊢;exact hw
  ·rw[e] at hw⊢
   cases o with
   |nx ρ'=>exact fun σ' F' H' s'=>hw .non H' F' s'.ext rfl
   |rt d=>exact fun v F' H' e' q=>hw v H' F' e' q
end
section
variable{X:Cx}{Xw:Nat→Hp→Prop}{CX:sf}{cv:Nat→Value}{k m:Nat}{f:Addr}{fd:FuncData}{ps:List Str}{g:List D→M D}{x:Str}{p pos:Pos}{e:Expr}{es:List Expr}{δs:DA}
theorem Aq(F:FnOk X.prog X.w X.K X.mg X.base CX k f fd ps (D8 X.K cv m g))(hr:Room k X.A)(hg:Gl X x)(hm:X.mg x=some (.ref f))(hk:PySem.W.keepIn X.K (.ref f)=true)(hb:Binds X.K fd ps [])(hx:Passes CX X (EX cv Xw))
 (ha:ko X Xw (e::es) δs)(hl:(e::es).length=m)(oR:(x==("__debug__":Str))=false:=by decide)(he:starEach (e::es) X.env=(false,eval e X.env)::starEach es X.env:=by rfl)(lh:(backTo pos (starEach es X.env)).any (·.1)=false:=by rfl):
 PD X Xw (.Call (.Name x p) (e::es) [] pos) (fun ρ=>δs ρ>>=fun ds=>if ds.length=m then g ds else M.stuck):=PE.weak (Ay F hr hg hm hk hb .nil hx ha oR he lh) fun σ H Q ⟨F,ρ,s,w⟩=>by
 refine⟨F,ρ,s,WPL.mono (WP.bindL w) fun vs H1 ⟨F1,ds,e1,q1,w1⟩=>?_⟩
 split at w1
 ·rename_i zy
  refine⟨F1,ds,e1.fh,by simpa using q1,by rw[List.append_nil,←q1.len];exact zy,WP.xw w1 fun n H h=>⟨n,rfl,h⟩⟩
 ·exact w1.elim
theorem uV{x:Str}{d:D}{v:V}{u:Value}(hg:Gl X x)(hm:X.mg x=some u)(r:RelV v u)(hd:∀F,Den X.K F d v)(oR:(x==("__debug__":Str))=false:=by decide):PD X Xw (.Name x pos) (dC d):=
 fY (AA hg hm r oR) hd
end
theorem obj_some{P:Program}{w:World}{H:Hp}{h:Heap}{a:Addr}{o:HO}(x:ObjOk P w H h a o):∃ob,h.get? a=some ob:=by
 cases o with
 |lst xs=>obtain⟨_,_,_,_,e⟩:=x;exact⟨_,e⟩
 |tup xs=>obtain⟨_,_,_,ob,e,_⟩:=x;exact⟨_,e⟩
 |dK ay=>obtain⟨_,_,_,_,o,_,_,e,_⟩:=x;exact⟨_,e⟩
 |dT ay=>obtain⟨_,_,_,_,o,_,_,e,_⟩:=x;exact⟨_,e⟩
 |set S n=>obtain⟨o,_,_,_,e,_⟩:=x;exact⟨_,e⟩
 |ins C dx fs=>obtain⟨_,_,_,e,_⟩:=x;exact⟨_,e⟩
 |own y=>obtain⟨_,e⟩:=x;exact⟨_,e⟩
 |xd fs=>obtain⟨_,⟨_,_,_,e,_⟩,_⟩:=x;exact⟨_,e⟩
 |rng lo hi=>obtain⟨_,_,_,e⟩:=x;exact⟨_,e⟩
 |frz ob u=>obtain⟨e,_⟩:=x;exact⟨_,e⟩
 |tbl ps=>exact⟨_,(show h.get? a=some _ from x)⟩
 |met f y=>exact⟨_,(show h.get? a=some _ from x)⟩
 |ext φ=>obtain⟨_,⟨_,e⟩,_⟩:=x;exact⟨_,e⟩
def i7(P:Program)(w:World)(cv:Nat→Value):sf:=fun outer H s E e s'=>∃(ea:Addr) (n:Nat) (a0:Value) (B:Heap) (H':Hp),e= .ref ea∧s'.os=s.os∧AllBare s'.gens∧HOk P w H' s'.heap∧Un (kE outer) [] H H' s.heap s'.heap∧
 Heap.FlyingW B outer ea (cv n) a0 s'.heap∧(∀b o,s'.heap.get? b=some o→(H' b≠none∨(s.heap.get? b).isSome=true)→b∉kE outer→B.get? b=some o)∧E (cv n) none H'
section
variable{P:Program}{w:World}{fs:List Addr}{H₀ H:Hp}{h₀ h h':Heap}
theorem A5(u:Un fs [] H₀ H h₀ h)(ka:∀b o,h.get? b=some o→b∉fs→(H b≠none∨(h₀.get? b).isSome=true)→h'.get? b=some o)(kb:∀b o,h.get? b=some o→b∈fs→∃sl,h'.get? b=some {o with slots:=sl}):Un fs [] H₀ H h₀ h' where
 keep:=fun b o e n hb hx=>ka b o (u.keep b o e n hb hx) hb (.inr (by rw[e];rfl))
 slot:=fun b o e n hb hx=>by
  obtain⟨sl,q⟩:=u.slot b o e n hb hx
  obtain⟨DH,q'⟩:=kb b _ q hb
  exact⟨DH,q'⟩
 free:=u.free
 there:=fun b o e hx=>by
  obtain⟨o',q⟩:=u.there b o e hx
  by_cases hb:b∈fs
  ·obtain⟨sl,q'⟩:=kb b _ q hb
   exact⟨_,q'⟩
  ·exact⟨o',ka b o' q hb (.inr (by rw[e];rfl))⟩
 tups:=u.tups
 frzs:=u.frzs
 tbls:=u.tbls
theorem xN(x:HOk P w H h)(hf:∀b∈fs,H b=none)(ka:∀b o,h.get? b=some o→b∉fs→H b≠none→h'.get? b=some o):HOk P w H h':=fun a o e=>by
 refine(x a o e).stay (fun b u hb q=>ka b u q (fun z=>?_) ?_) (fun _ q=>q) fun _ _ q=>q
 ·have hz:=hf b z
  rcases hb with rfl | hb
  ·rw[hz] at e;cases e
  ·rw[hz] at hb;cases hb
 ·rcases hb with rfl | hb
  ·rw[e];exact fun z=>nomatch z
  ·rw[hb];exact fun z=>nomatch z
end
section
variable{P:Program}{w:World}{K:W.Frag}{mg:Str→Option Value}{base:Heap}{N:List Str}{qual:Str}{scope:Scope}{f:Addr}{cd:Value}{A:Around}{outer:List Env}{s₀:Shared}{H₀:Hp}{E:XK}{cv:Nat→Value}
theorem aG:Passes (i7 P w cv) (de (i7 P w cv) P w K mg base N qual scope f cd A outer s₀ H₀ E) (EX cv fun n H'=>E (cv n) none H'):=by
 intro pins σ H s e s' I ⟨ea,n,a0,B,H',he,qE,hg,hok,un,Iv,hB,m,hm,hE⟩
 subst he
 have Cd:((de (i7 P w cv) P w K mg base N qual scope f cd A outer s₀ H₀ E)).env.locals=s₀.heap.objs.size:=rfl
 have zX:kE ((de (i7 P w cv) P w K mg base N qual scope f cd A outer s₀ H₀ E)).stack=s₀.heap.objs.size::kE outer:=rfl
 show wpAny (model P w) (A.deeper (envOfC qual scope s₀.heap.objs.size f cd)) (leaving (envOfC qual scope s₀.heap.objs.size f cd) (.ref ea)) _ _ s'
 refine wpAny_leaves_onW (base:=B) (outer:=outer) (L:=s₀.heap.objs.size) I.ok.frames rfl Iv fun h' B3 ups=>?_
 have Bu:∀b∈kE ((de (i7 P w cv) P w K mg base N qual scope f cd A outer s₀ H₀ E)).stack,H' b=none:=fun b hb=>by
  obtain⟨o,ho⟩:∃o,s.heap.get? b=some o:=by
   obtain⟨_,o,ho,_⟩:=I.stack.mem hb
   exact⟨o,ho⟩
  exact un.free b o ho (I.stkFree b hb) (by simp)
 have By:∀b o,s'.heap.get? b=some o→b∉kE ((de (i7 P w cv) P w K mg base N qual scope f cd A outer s₀ H₀ E)).stack→(H' b≠none∨(s.heap.get? b).isSome=true)→h'.get? b=some o:=fun b o e hb hc=>B3.1 b o (hB b o e hc hb)
 have Ii:Un (kE outer) [] H₀ H' s₀.heap s'.heap:=by
  have u1:Un (kE outer) [] H₀ H s₀.heap s.heap:=I.base
  refine⟨fun b o e nn hb hx=>?_,fun b o e nn hb hx=>?_,fun b o e nn hx=>?_,fun b o e hx=>?_,fun b xs q=>un.tups b xs (u1.tups b xs q),fun b o u q=>un.frzs b o u (u1.frzs b o u q),fun b ps q=>?_⟩
  ·refine un.keep b o (u1.keep b o e nn hb hx) (u1.free b o e nn hx) (fun z=>?_) (by simp)
   rw[zX] at z
   rcases List.mem_cons.mp z with z | z
   ·exact absurd (Heap.lt_size e) (by rw[z];exact Nat.lt_irrefl _)
   ·exact hb z
  ·obtain⟨sl,q⟩:=u1.slot b o e nn hb hx
   obtain⟨DH,q'⟩:=un.slot b _ q (u1.free b o e nn hx) (by rw[zX];exact List.mem_cons_of_mem _ hb) (by simp)
   exact⟨DH,q'⟩
  ·obtain⟨o',q⟩:=u1.there b o e hx
   exact un.free b o' q (u1.free b o e nn hx) (by simp)
  ·obtain⟨o',q⟩:=u1.there b o e hx
   exact un.there b o' q (by simp)
  ·obtain⟨m1,q1⟩:=u1.tbls b ps q
   obtain⟨m2,q2⟩:=un.tbls b _ q1
   exact⟨m1++m2,by rw[q2,Array.append_assoc]⟩
 have Je:∀b,(s₀.heap.get? b).isSome=true→(s.heap.get? b).isSome=true:=fun b hb=>by
  obtain⟨o,ho⟩:=Option.isSome_iff_exists.mp hb
  obtain⟨o',q⟩:=(show Un (kE outer) [] H₀ H s₀.heap s.heap from I.base).there b o ho (by simp)
  rw[q];rfl
 have HD:∀b,(s₀.heap.get? b).isSome=true→b≠s₀.heap.objs.size:=fun b hb z=>by
  obtain⟨o,ho⟩:=Option.isSome_iff_exists.mp hb
  exact absurd (Heap.lt_size ho) (by rw[z];exact Nat.lt_irrefl _)
 have Fi:∀b,b∉kE outer→(H' b≠none∨(s₀.heap.get? b).isSome=true)→b∉kE ((de (i7 P w cv) P w K mg base N qual scope f cd A outer s₀ H₀ E)).stack:=fun b hb hc z=>by
  rcases hc with hc | hc
  ·exact hc (Bu b z)
  ·rw[zX] at z
   rcases List.mem_cons.mp z with z | z
   ·exact HD b hc z
   ·exact hb z
 refine⟨ea,n,a0,B,H',rfl,qE.trans I.os,hg,xN hok Bu (fun b o e hb hc=>By b o e hb (.inl hc)),A5 Ii (fun b o e hb hc=>By b o e (Fi b hb hc) (hc.imp id (Je b))) (fun b o e hb=>?_),B3,fun b o e hc hb=>?_,?_⟩
 ·obtain⟨_,o',nz,hd⟩:=Iv.2.2.1.mem (show b∈kE ((de (i7 P w cv) P w K mg base N qual scope f cd A outer s₀ H₀ E)).stack by rw[zX];exact List.mem_cons_of_mem _ hb)
  rw[e] at nz
  cases nz
  exact ups b o e hd
 ·have GZ:=Fi b hb hc
  obtain⟨o',nz⟩:∃o',s'.heap.get? b=some o':=by
   rcases hc with hc | hc
   ·cases q:H' b with
    |none=>exact absurd q hc
    |some u=>
     exact obj_some (hok b u q)
   ·obtain⟨o1,h1⟩:=Option.isSome_iff_exists.mp hc
    exact Ii.there b o1 h1 (by simp)
  have:=hB b o' nz (hc.imp id (Je b)) GZ
  rw[B3.1 b o' this] at e
  cases e
  exact this
 ·rw[hm];exact hE
end
section
variable{X:Cx}{Xw:Nat→Hp→Prop}{cv:Nat→Value}{n:Nat}{C:Addr}{x:Str}{np a5 pos:Pos}{e:Expr}{es:List Expr}{δs:DA}{bm:List Value}{B newId Hy:String}
end
def Bz:D→Option String
 | .non=>some "NoneType"
 | .bl _=>some "bool"
 | .int _=>some "int"
 | .str _=>some "str"
 | .tup _=>some "tuple"
 | .lst _=>some "list"
 |_=>none
def Cy(k T:String):Option Bool:=if T="str"∨T="int"∨T="bool"∨T="tuple"∨T="list" then some (decide (k=T)||(decide (k="bool")&&decide (T="int"))) else none
def fv:List D→M D
 |[d, .raw (.ty T)]=>match Bz d with
  |some k=>match Cy k T with
   |some b=>M.ret (.bl b)
   |none=>M.stuck
  |none=>M.stuck
 |_=>M.stuck
theorem CL{K:W.Frag}{k T:String}{b:Bool}(hk:k="NoneType"∨k="bool"∨k="int"∨k="str"∨k="tuple"∨k="list")(h:Cy k T=some b):PySem.W.kitOne K (.type k) (.type T)=some b:=by
 unfold Cy at h
 split at h
 ·rename_i hT
  cases h
  rcases hk with rfl | rfl | rfl | rfl | rfl | rfl<;>rcases hT with rfl | rfl | rfl | rfl | rfl<;>with_unfolding_all rfl
 ·cases h
section
variable{X:Cx}{Xw:Nat→Hp→Prop}{a b e e2:Expr}{es:List Expr}{δa δb:DE}{δs:DA}{pos p:Pos}
def FF(K:W.Frag):List V→Hp→VK→Prop:=fun xs H Q=>∃x T t b,xs=[x, .ty T]∧TyOf K H x t∧PySem.W.kitOne K t (.type T)=some b∧Q (.bl b) H
theorem xc:CallR X (.builtin "isinstance") (FF X.K):=by
 intro pins s σ H xs us Q I r h
 obtain⟨x,T,t,b,rfl,ty,e,q⟩:=h
 obtain⟨u,w',rfl,r1,r2⟩:=vals2 r
 cases (show w'=_ from r2)
 exact vK I r1 ty e fun tk=>⟨.bl b,H,I.tok tk,rfl,q⟩
theorem zm{K:W.Frag}{F H:Hp}{d:D}{v:V}{k:String}(s:Same F H)(h:Den K F d v)(hk:Bz d=some k):TyOf K H v (.type k)∧(k="NoneType"∨k="bool"∨k="int"∨k="str"∨k="tuple"∨k="list"):=by
 cases d with
 |non=>cases hk;cases (show _=_ from h);exact⟨.non, .inl rfl⟩
 |bl x=>cases hk;cases (show _=_ from h);exact⟨.bl x, .inr (.inl rfl)⟩
 |int x=>cases hk;cases (show _=_ from h);exact⟨.int x, .inr (.inr (.inl rfl))⟩
 |str x=>cases hk;cases (show _=_ from h.1);exact⟨.str x, .inr (.inr (.inr (.inl rfl)))⟩
 |tup x=>cases hk;obtain⟨a,vs,rfl,h2,_⟩:=h;exact⟨.tup (s _ _ h2), .inr (.inr (.inr (.inr (.inl rfl))))⟩
 |lst x=>cases hk;obtain⟨a,vs,rfl,h2,_⟩:=h;exact⟨.lst (s _ _ h2), .inr (.inr (.inr (.inr (.inr rfl))))⟩
 |_=>cases hk
theorem vJ{K:W.Frag}:qb K (FF K) fv:=fun Xw F H vs ds Q s h w=>by
 unfold fv at w
 split at w
 ·rename_i d T
  obtain⟨v,v',rfl,h1,h2⟩:=h.two
  cases (show _=_ from h2)
  split at w
  ·rename_i k hk
   split at w
   ·rename_i b hb
    obtain⟨ty,uw⟩:=zm s h1 hk
    exact⟨v,T, .type k,b,rfl,ty,CL uw hb,WP.now w s rfl⟩
   ·exact w.elim
  ·exact w.elim
 ·exact w.elim
theorem jl(hg:Gl X "isinstance")(hm:X.mg "isinstance"=none)(hb:bootBuiltins "isinstance"=some (.builtin "isinstance"))(ha:ko X Xw [e,e2] δs)(he:starEach [e,e2] X.env=(false,eval e X.env)::starEach [e2] X.env:=by rfl)
 (lh:(backTo pos (starEach [e2] X.env)).any (·.1)=false:=by rfl):PD X Xw (.Call (.Name "isinstance" p) [e,e2] [] pos) (dA fv δs):=
 dg xc vJ hg hm hb ha (by decide) (by decide) he lh
theorem n0{x:Str}{T:String}(hg:Gl X x)(hm:X.mg x=none)(hv:bootBuiltins x=some (.type T))(hn:x≠"__name__":=by decide)(hd:(x==("__debug__":Str))=false:=by decide):PD X Xw (.Name x pos) (dC (.raw (.ty T))):=
 fY (v:= .ty T) (Ax hg hm hv (show RelV (.ty T) (.type T) from rfl) hn hd) fun _=>rfl
def bools:List D→Option (List Bool)
 |[]=>some []
 | .bl b::r=>(bools r).map (b:: ·)
 |_=>none
def allM:List D→M D
 |[.lst ds]=>match bools ds with
  |some bs=>M.ret (.bl (bs.all id))
  |none=>M.stuck
 |_=>M.stuck
theorem ni{K:W.Frag}{F:Hp}:∀{ds:List D}{vs:List V}{bs:List Bool},bools ds=some bs→DenL K F ds vs→vs=bs.map V.bl
 |[],_,_,e,h=>by cases e;exact h
 | .bl b::r,_,_,e,⟨v,r',h1,h2,h3⟩=>by
   unfold bools at e
   cases q:bools r with
   |none=>rw[q] at e;cases e
   |some bs=>rw[q] at e;cases e;subst h1;rw[ni q h3,show v= .bl b from h2];rfl
 | .non::_,_,_,e,_=>by cases e
 | .int _::_,_,_,e,_=>by cases e
 | .str _::_,_,_,e,_=>by cases e
 | .raw _::_,_,_,e,_=>by cases e
 | .exc _::_,_,_,e,_=>by cases e
 | .scr _::_,_,_,e,_=>by cases e
 | .tup _::_,_,_,e,_=>by cases e
 | .lst _::_,_,_,e,_=>by cases e
theorem vc:∀{bs:List Bool}{aA:List Value},Vals (bs.map V.bl) aA→aA=bs.map Value.bool
 |[],_,r=>by cases r;rfl
 |b::bs,_,r=>by
  cases r with
  |cons r1 r2=>cases (show _=_ from r1);rw[vc r2];rfl
def HN:List V→Hp→VK→Prop:=fun xs H Q=>∃(a:Addr) (bs:List Bool),xs=[.ref a]∧H a=some (.lst (bs.map V.bl))∧Q (.bl (bs.all id)) H
theorem all_range{bs:List Bool}:(List.range bs.length).all (fun i=>bs.getD i false)=bs.all id:=by
 induction bs with
 |nil=>rfl
 |cons b bs ih=>
  rw[List.length_cons,List.range_succ_eq_map,List.all_cons,List.all_map,List.all_cons]
  congr 1
theorem vp(hc:X.calm=true):CallR X (.builtin "all") HN:=by
 intro pins s σ H xs us Q I r h
 obtain⟨a,bs,rfl,hH,q⟩:=h
 obtain⟨u,rfl,r1⟩:=vals1 r
 cases (show u=_ from r1)
 obtain⟨aA,r2,pl,hz⟩:=I.list (SqL.of (K:=X.K) hH)
 obtain rfl:=vc r2
 have mx:a≠s.heap.objs.size:=Nat.ne_of_lt (I.hok.lt hH)
 refine call_all_walk (wpAny_pyIter_list pl.isList ?_)
 refine⟨s.heap.objs.size,_,_,_,_,_,fun i=>bs.getD i false,rfl,Walks.list (A:=X.A.in1) (show X.A.in1.handled=none from I.ok.hd hc) s.heap.objs.size a mx (bs.map Value.bool).toArray,⟨⟨_,Heap.get?_push_size _ rfl,rfl,rfl⟩,Heap.IsList.at pl.isList fun o e=>Heap.get?_push_of_some _ e⟩,?_,fun h' tk k=>?_⟩
 ·intro i v s' Q' E' hv hq
  have hv:(bs.map Value.bool).toArray[i]? =some v:=hv
  rw[List.getElem?_toArray,List.getElem?_map] at hv
  cases q':bs[i]? with
  |none=>rw[q'] at hv;cases hv
  |some b=>
   rw[q'] at hv
   cases hv
   have:bs.getD i false=b:=by rw[List.getD_eq_getElem?_getD,q'];rfl
   have hq:Q' (bs.getD i false) s':=hq
   rw[this] at hq
   exact wpAny_truthy_bool hq
 ·have e:(List.range (bs.map Value.bool).toArray.size).all (fun i=>bs.getD i false)=bs.all id:=by
   rw[List.size_toArray,List.length_map];exact all_range
  rw[e]
  refine⟨.bl (bs.all id),H,I.kept (h':=h') (t':=tk) fun b o e'=>k b o (fun z=>?_) (Heap.get?_push_of_some _ e'),rfl,q⟩
  have z:b=s.heap.objs.size:=by simpa using z
  exact absurd (Heap.lt_size e') (by rw[z];exact Nat.lt_irrefl _)
theorem tE(hc:X.calm=true)(hg:Gl X "all")(hm:X.mg "all"=none)(hb:bootBuiltins "all"=some (.builtin "all"))(ha:ko X Xw [e] δs)(he:starEach [e] X.env=[(false,eval e X.env)]:=by rfl):PD X Xw (.Call (.Name "all" p) [e] [] pos) (dA allM δs):=
 dg (vp hc) (fun Xw F H vs ds Q s h w=>by
  unfold allM at w
  split at w
  ·rename_i ds
   obtain⟨v,rfl,h1⟩:=h.one
   obtain⟨a,ws,rfl,h2,h3,_⟩:=h1
   split at w
   ·rename_i bs hb
    exact⟨a,bs,rfl,by rw[←ni hb h3];exact s _ _ h2,WP.now w s rfl⟩
   ·exact w.elim
  ·exact w.elim) hg hm hb ha (by decide) (by decide) he rfl
end
section
variable{X:Cx}{Xw:Nat→Hp→Prop}{a b e e2:Expr}{es:List Expr}{δ δa δb:DE}{δs:DA}{pos p apos a5:Pos}
theorem A2{i:Nat}:∀F₀ H₀ D σ H,tS X.K Xw F₀ H₀ (rF i δ) D σ H→zi (HX X.K "list" u3 (mX i) (zh (tD X.K Xw δ) DN)) D σ H:=fun F₀ H₀ D σ H ⟨F,ρ,s,w⟩=>by
 unfold rF at w
 cases ho:wd ρ i with
 |none=>rw[ho] at w;exact w.elim
 |some ds=>
  rw[ho] at w
  have hi:=nU ho
  obtain⟨v,hv,a,o,rfl,hH,hF,vs,rfl,hd,hl⟩:=s.st.den i _ hi
  have w:WPS X.K Xw F₀ H₀ (δ ρ>>=fun d=>if ds.length<lim then M.ret (.nx (ρ.set i (some (.ow (.lst (ds++[d])))))) else M.stuck) D:=w
  refine⟨.ref a,hv, .inl ⟨rfl,vs,SqL.of hH⟩,F,ρ,s.st,?_⟩
  rcases(δ ρ).cs with q | ⟨n,q⟩ | ⟨d,q⟩
  ·rw[q] at w;exact w.elim
  ·rw[q] at w⊢;exact fun F' H' e'=>w F' H' (s.ext.trans e')
  ·rw[q] at w⊢
   intro u H1 F1 e1 hq
   have w:WPS X.K Xw F₀ H₀ (if ds.length<lim then M.ret (.nx (ρ.set i (some (.ow (.lst (ds++[d])))))) else M.stuck) D:=w
   split at w
   ·rename_i dz
    have hlen:=hd.len
    refine⟨a,vs,u,rfl,rfl,e1.hh _ _ hH,by have:=cW;omega,?_⟩
    exact w σ F1 _ ((s.ext' e1).chg (c₀:= .lst (ds++[d])) hi hv ⟨_,rfl,DenL.append (DenL.mono e1.ff hd) (.cons hq .nil),by rw[List.length_append];exact dz⟩)
   ·exact w.elim
theorem A3{i:Nat}:∀F₀ H₀ D σ H,tS X.K Xw F₀ H₀ (y0 i δ) D σ H→zi (HX X.K "list" u4 (mX i) (zh (tD X.K Xw δ) DN)) D σ H:=fun F₀ H₀ D σ H ⟨F,ρ,s,w⟩=>by
 unfold y0 at w
 cases ho:wd ρ i with
 |none=>rw[ho] at w;exact w.elim
 |some ds=>
  rw[ho] at w
  have hi:=nU ho
  obtain⟨v,hv,a,o,rfl,hH,hF,vs,rfl,hd,hl⟩:=s.st.den i _ hi
  have w:WPS X.K Xw F₀ H₀ (δ ρ>>=fun d=>lstM d>>=fun es=>if ds.length+es.length≤lim then M.ret (.nx (ρ.set i (some (.ow (.lst (ds++es)))))) else M.stuck) D:=w
  refine⟨.ref a,hv, .inl ⟨rfl,vs,SqL.of hH⟩,F,ρ,s.st,?_⟩
  rcases(δ ρ).cs with q | ⟨n,q⟩ | ⟨d,q⟩
  ·rw[q] at w;exact w.elim
  ·rw[q] at w⊢;exact fun F' H' e'=>w F' H' (s.ext.trans e')
  ·rw[q] at w⊢
   intro u H1 F1 e1 hq
   cases d with
   |lst es=>
    obtain⟨b,ws,rfl,k2,k3,k4⟩:=hq
    have w:WPS X.K Xw F₀ H₀ (if ds.length+es.length≤lim then M.ret (.nx (ρ.set i (some (.ow (.lst (ds++es)))))) else M.stuck) D:=w
    split at w
    ·rename_i dz
     have hlen:=hd.len
     have IU:=k3.len
     refine⟨a,b,vs,ws,rfl,rfl,e1.hh _ _ hH,e1.fh _ _ k2,by have:=cW;omega,?_⟩
     exact w σ F1 _ ((s.ext' e1).chg (c₀:= .lst (ds++es)) hi hv ⟨_,rfl,DenL.append (DenL.mono e1.ff hd) k3,by rw[List.length_append];exact dz⟩)
    ·exact w.elim
   |_=>exact w.elim
theorem uZ{i:Nat}{x:Str}(hv:PE X (.Name x p) (mX i))(he:PD X Xw e δ)(hs:swapsWith (.Call (.Attribute (.Name x p) "append" apos) [e] [] a5) none pos.line X.env=pure false:=by rfl)
 (fN:attributeBase (.Name x p) "append" X.env (eval (.Name x p) X.env)=eval (.Name x p) X.env:=by rfl)
 (lg:((backTo a5 (starEach [e] X.env)).all (fun x=>!x.1)&&(backToKw a5 (keywordEach [] X.env)).all (fun x=>x.1.isSome)&&decide ([e].length+([]:List Keyword).length+(if ([]:List Keyword).isEmpty then 0 else 1)<30))=true:=by rfl)
 (fO:(apos.endLine==a5.line)=true:=by rfl)(qF:starEach [e] X.env=[(false,eval e X.env)]:=by rfl):g0 X Xw (.Expr (.Call (.Attribute (.Name x p) "append" apos) [e] [] a5) pos) (rF i δ):=fun F₀ H₀=>
 PS.weak (pG (yB PySem.F.plainAttrs_list PySem.F.slot_list_append PySem.F.type_list_append nM hv (pz he pA qF) fN lg fO qF rfl) hs) fun D σ H w=>A2 F₀ H₀ D σ H w
theorem AI{i:Nat}{x:Str}(hv:PE X (.Name x p) (mX i))(he:PD X Xw e δ)(hs:swapsWith (.Call (.Attribute (.Name x p) "extend" apos) [e] [] a5) none pos.line X.env=pure false:=by rfl)
 (fN:attributeBase (.Name x p) "extend" X.env (eval (.Name x p) X.env)=eval (.Name x p) X.env:=by rfl)
 (lg:((backTo a5 (starEach [e] X.env)).all (fun x=>!x.1)&&(backToKw a5 (keywordEach [] X.env)).all (fun x=>x.1.isSome)&&decide ([e].length+([]:List Keyword).length+(if ([]:List Keyword).isEmpty then 0 else 1)<30))=true:=by rfl)
 (fO:(apos.endLine==a5.line)=true:=by rfl)(qF:starEach [e] X.env=[(false,eval e X.env)]:=by rfl):g0 X Xw (.Expr (.Call (.Attribute (.Name x p) "extend" apos) [e] [] a5) pos) (y0 i δ):=fun F₀ H₀=>
 PS.weak (pG (yB PySem.F.plainAttrs_list PySem.F.slot_list_extend PySem.F.type_list_extend vZ hv (pz he pA qF) fN lg fO qF rfl) hs) fun D σ H w=>A3 F₀ H₀ D σ H w
theorem yo:OpR X (binaryOp .Add) (fun x y H Q=>∃a b ys,x= .ref a∧y= .ref b∧SqT X.K H a []∧SqT X.K H b ys∧Q (.ref b) H):=by
 intro pins s σ H x y v u Q I rx ry h
 obtain⟨a,b,ys,rfl,rfl,ha,hb,q⟩:=h
 cases rx
 cases ry
 obtain⟨aA,r1,p1,_⟩:=I.tuple ha
 obtain⟨eD,r2,p2,_⟩:=I.tuple hb
 cases r1
 obtain⟨⟨cls,dd,data,sl⟩,ho,hc,n,hd⟩:=id p1
 obtain⟨⟨GG,F4,data2,Gp⟩,Ck,B7,n2,hd2⟩:=id p2
 simp only at hc hd B7 hd2
 subst hc hd B7 hd2
 exact concat_meets ⟨_,ho,rfl⟩ ⟨_,Ck,rfl⟩ noFill_tuple_add seq_tuple_add PySem.F.slot_tuple_add PySem.F.entry_tuple_add (PySem.F.args_tuple_add_2 _ _)
  (tuple_addW0 a b _ _ n n2 dd F4 sl Gp (by simp)) ⟨ho,Ck,⟨.ref b,H,I,rfl,q⟩⟩
def nv:D→D→M D
 | .tup x, .tup y=>if x.length+y.length≤lim then M.ret (.tup (x++y)) else M.stuck
 |_,_=>M.stuck
theorem uU(ha:PD X Xw a δa)(hb:PD X Xw b δb):PD X Xw (.BinOp a .Add b pos) (d2 nv δa δb):=nZ (yo.or Ah) (fun Xw F H x y dx dy Q s hx hy w=>by
 unfold nv at w
 split at w
 ·rename_i i j
  obtain⟨a,vs,h1,h2,h3,h4⟩:=hx
  obtain⟨a',wQ,k1,k2,k3,k4⟩:=hy
  split at w
  ·rename_i hl
   have e1:=h3.len
   have e2:=k3.len
   have:=cW
   by_cases hv:vs=[]
   ·subst hv
    have:i=[]:=by cases i with | nil=>rfl | cons _ _=>simp at e1
    subst this
    exact .inl ⟨a,a',wQ,h1,k1,SqT.of (s _ _ h2),SqT.of (s _ _ k2),WP.now w s ⟨a',wQ,k1▸rfl,k2,k3,k4⟩⟩
   ·refine .inr ⟨a,a',vs,wQ,h1,k1,SqT.of (s _ _ h2),SqT.of (s _ _ k2),hv,by omega,fun z=>?_,fun z p hp=>?_⟩
    ·subst z
     have:j=[]:=by cases j with | nil=>rfl | cons _ _=>simp at e2
     subst this
     rw[List.append_nil] at w
     exact WP.now w s ⟨a,vs,rfl,h2,h3,h4⟩
    ·exact WP.fin w (Ext.lay s hp) ⟨p,_,rfl,aD,DenL.mono (Ext.lay s hp).ff (h3.append k3),by rw[List.length_append];exact hl⟩
  ·exact w.elim
 ·exact w.elim) ha hb
end
section
variable{X:Cx}{Xw:Nat→Hp→Prop}{a b e e2 o:Expr}{es:List Expr}{δ δa δb δo:DE}{δs:DA}{pos p apos a5:Pos}
def dM(kd:D→Bool)(g:D→List D→M D)(o:DE)(s:DA):DE:=fun ρ=>o ρ>>=fun d=>if kd d then s ρ>>=fun ds=>g d ds else M.stuck
theorem BG{T:String}{name:Str}{id:String}{r:V→List V→Hp→VK→Prop}{kd:D→Bool}{g:D→List D→M D}(pa:PlainAttrs T)(slot:Slot T name id)(Hn:typeOf (.builtin id)=pure (.type "method_descriptor"))(hm:FY X id r)
 (hk:∀(F H:Hp) (x:V) (d:D),kd d=true→Same F H→Den X.K F d x→Gs X.K T x H)
 (hd:∀(Xw:Nat→Hp→Prop) (F H:Hp) (x:V) (vs:List V) (d:D) (ds:List D) (Q:VK),Same F H→Den X.K F d x→DenL X.K F ds vs→WP X.K Xw F H (g d ds) Q→r x vs H Q)
 (ho:PD X Xw o δo)(ha:ko X Xw (e::es) δs)
 (fN:attributeBase o name X.env (eval o X.env)=eval o X.env:=by rfl)
 (lg:((backTo a5 (starEach (e::es) X.env)).all (fun x=>!x.1)&&(backToKw a5 (keywordEach [] X.env)).all (fun x=>x.1.isSome)
  &&decide ((e::es).length+([]:List Keyword).length+(if ([]:List Keyword).isEmpty then 0 else 1)<30))=true:=by rfl)
 (fO:(apos.endLine==a5.line)=true:=by rfl) (hs:starEach (e::es) X.env=(false,eval e X.env)::starEach es X.env:=by rfl) (sM:(backTo a5 (starEach es X.env)).any (·.1)=false:=by rfl):
 PD X Xw (.Call (.Attribute o name apos) (e::es) [] a5) (dM kd g δo δs):=PE.weak (yB pa slot Hn hm ho ha fN lg fO hs sM) fun σ H Q ⟨F,ρ,s,w⟩=>by
 refine⟨F,ρ,s,WP.mono (WP.bind w) fun v H1 ⟨F1,d,e1,q1,w1⟩=>?_⟩
 split at w1
 ·rename_i Kg
  refine⟨hk F1 H1 v d Kg e1.fh q1,F1,ρ,s.ext e1,WPL.mono (WP.bindL w1) fun vs H2 ⟨F2,ds,e2,q2,w2⟩=>?_⟩
  exact hd Xw F2 H2 v vs d ds Q e2.fh (Den.mono e2.ff q1) q2 w2
 ·exact w1.elim
def lu:D→Bool
 | .str _=>true
 |_=>false
theorem xQ{K:W.Frag}(F H:Hp)(x:V)(d:D)(h:lu d=true)(s:Same F H)(q:Den K F d x):Gs K "str" x H:=by
 cases d with
 |str z=>cases (show _=_ from q.1);exact rfl
 |_=>cases h
def ie:List D→Option (List Str)
 |[]=>some []
 | .str x::r=>(ie r).map (x:: ·)
 |_=>none
theorem mj{K:W.Frag}{F:Hp}:∀{ds:List D}{vs:List V}{xs:List Str},ie ds=some xs→DenL K F ds vs→vs=xs.map V.str
 |[],_,_,e,h=>by cases e;exact h
 | .str b::r,_,_,e,⟨v,r',h1,h2,h3⟩=>by
   unfold ie at e
   cases q:ie r with
   |none=>rw[q] at e;cases e
   |some bs=>rw[q] at e;cases e;subst h1;rw[mj q h3,show v= .str b from h2.1];rfl
 | .non::_,_,_,e,_=>by cases e
 | .int _::_,_,_,e,_=>by cases e
 | .bl _::_,_,_,e,_=>by cases e
 | .raw _::_,_,_,e,_=>by cases e
 | .exc _::_,_,_,e,_=>by cases e
 | .scr _::_,_,_,e,_=>by cases e
 | .tup _::_,_,_,e,_=>by cases e
 | .lst _::_,_,_,e,_=>by cases e
theorem mm:∀{xs:List Str}{aA:List Value},Vals (xs.map V.str) aA→StrsAre aA xs
 |[],_,r=>by cases r;exact .nil
 |b::bs,_,r=>by
  cases r with
  |cons r1 r2=>obtain⟨t,rfl⟩:=r1;exact .cons b t (mm r2)
def cq:List Str→Str
 |[]=>⟨#[]⟩
 |x::r=>x++cq r
def joinM:D→List D→M D
 | .str sep,[.lst ds]=>match ie ds with
   |some xs=>if sep.length=0∧(xs.map (·.length)).sum≤lim then M.ret (.str (cq xs)) else M.stuck
   |none=>M.stuck
 | .str sep,[.tup ds]=>match ie ds with
   |some xs=>if sep.length=0∧(xs.map (·.length)).sum≤lim then M.ret (.str (cq xs)) else M.stuck
   |none=>M.stuck
 |_,_=>M.stuck
theorem kU:∀xs:List Str,(cq xs).length=(xs.map (·.length)).sum
 |[]=>rfl
 |x::r=>by
  show (x++cq r).length=_
  rw[gp,kU r,List.map_cons,List.sum_cons]
theorem A1{x:Str}(h:x.length=0):x=⟨#[]⟩:=by
 obtain⟨⟨l⟩⟩:=x
 have:l.length=0:=h
 cases l with
 |nil=>rfl
 |cons _ _=>simp at this
theorem j8(x:Str):x++(⟨#[]⟩:Str)=x:=by
 obtain⟨c⟩:=x
 show (⟨c++ #[]⟩:Str)=⟨c⟩
 simp
theorem jM(sep:Str)(h:sep.length=0):∀xs:List Str,Txt.join sep xs=cq xs:=by
 have e:=A1 h
 subst e
 intro xs
 show Builtin.Str.glued _ xs=_
 rw[StrLaws.glued_eq_join]
 induction xs with
 |nil=>rfl
 |cons x r ih=>
  cases r with
  |nil=>show x=x++(⟨#[]⟩:Str);rw[j8]
  |cons y r=>show x++(⟨#[]⟩:Str)++Str.join _ (y::r)=x++cq (y::r);rw[j8,ih]
def rJoin(K:W.Frag):V→List V→Hp→VK→Prop:=fun x vs H Q=>∃(sep:Str) (a:Addr) (xs:List Str),x= .str sep∧vs=[.ref a]∧(H a=some (.lst (xs.map V.str))∨H a=some (.tup (xs.map V.str)))∧sep.length=0∧(xs.map (·.length)).sum≤lim∧Q (.str (cq xs)) H
theorem Ad:FY X "str.join" (rJoin X.K):=by
 intro pins s σ H x vs v us Q I rx rv h
 obtain⟨sep,a,xs,rfl,rfl,hH,hs,hl,q⟩:=h
 obtain⟨t,rfl⟩:=rx
 obtain⟨u,rfl,r1⟩:=rv.one
 cases (show u=_ from r1)
 have hok:(xs.map (·.length)).sum+xs.length*sep.length≤16777216:=by
  rw[hs,Nat.mul_zero]
  unfold lim at hl
  omega
 rcases hH with hH | hH
 ·obtain⟨aA,r2,pl,hz⟩:=I.list (SqL.of (K:=X.K) hH)
  refine join_list pl.isList (by simpa using mm r2) hok fun t' k=>⟨.str (cq xs),H,I.tok k,⟨t',by rw[jM sep hs]⟩,q⟩
 ·obtain⟨aA,r2,pl,hz⟩:=I.tuple (SqT.of (K:=X.K) hH)
  refine join_tuple pl (by simpa using mm r2) hok fun t' k=>⟨.str (cq xs),H,I.tok k,⟨t',by rw[jM sep hs]⟩,q⟩
theorem iO(ho:PD X Xw o δo)(ha:ko X Xw [e] δs)(fN:attributeBase o "join" X.env (eval o X.env)=eval o X.env:=by rfl)
 (lg:((backTo a5 (starEach [e] X.env)).all (fun x=>!x.1)&&(backToKw a5 (keywordEach [] X.env)).all (fun x=>x.1.isSome)&&decide ([e].length+([]:List Keyword).length+(if ([]:List Keyword).isEmpty then 0 else 1)<30))=true:=by rfl)
 (fO:(apos.endLine==a5.line)=true:=by rfl)(qF:starEach [e] X.env=[(false,eval e X.env)]:=by rfl):PD X Xw (.Call (.Attribute o "join" apos) [e] [] a5) (dM lu joinM δo δs):=
 BG PySem.F.plainAttrs_str PySem.F.slot_str_join PySem.F.type_str_join Ad xQ (fun Xw F H x vs d ds Q s hx hv w=>by
  unfold joinM at w
  split at w
  ·rename_i sep ds
   obtain⟨v,rfl,h1⟩:=hv.one
   obtain⟨a,ws,rfl,h2,h3,_⟩:=h1
   split at w
   ·rename_i xs Hr
    split at w
    ·rename_i hc
     exact⟨sep,a,xs,hx.1,rfl, .inl (by rw[←mj Hr h3];exact s _ _ h2),hc.1,hc.2,WP.now w s ⟨rfl,by rw[kU];exact hc.2⟩⟩
    ·exact w.elim
   ·exact w.elim
  ·rename_i sep ds
   obtain⟨v,rfl,h1⟩:=hv.one
   obtain⟨a,ws,rfl,h2,h3,_⟩:=h1
   split at w
   ·rename_i xs Hr
    split at w
    ·rename_i hc
     exact⟨sep,a,xs,hx.1,rfl, .inr (by rw[←mj Hr h3];exact s _ _ h2),hc.1,hc.2,WP.now w s ⟨rfl,by rw[kU];exact hc.2⟩⟩
    ·exact w.elim
   ·exact w.elim
  ·exact w.elim) ho ha fN lg fO qF rfl
def rT:List D→M D
 |[.lst ds]=>M.ret (.tup ds)
 |[.tup ds]=>M.ret (.tup ds)
 |_=>M.stuck
theorem lT(hg:Gl X "tuple")(hm:X.mg "tuple"=none)(hb:bootBuiltins "tuple"=some (.type "tuple"))(ha:ko X Xw [e] δs)(he:starEach [e] X.env=[(false,eval e X.env)]:=by rfl):PD X Xw (.Call (.Name "tuple" p) [e] [] pos) (dA rT δs):=
 nY mD (fun Xw F H vs ds Q s h w=>by
  unfold rT at w
  split at w
  ·rename_i ds
   obtain⟨v,rfl,h1⟩:=h.one
   obtain⟨a,ws,rfl,h2,h3,h4⟩:=h1
   exact⟨a,ws,rfl, .inl ⟨SqL.of (s _ _ h2),fun l hl=>WP.fin w (Ext.lay s hl) ⟨l,ws,rfl,aD,DenL.mono (Ext.lay s hl).ff h3,h4⟩⟩⟩
  ·rename_i ds
   obtain⟨v,rfl,h1⟩:=h.one
   obtain⟨a,ws,rfl,h2,h3,h4⟩:=h1
   exact⟨a,ws,rfl, .inr ⟨SqT.of (s _ _ h2),WP.now w s ⟨a,ws,rfl,h2,h3,h4⟩⟩⟩
  ·exact w.elim) hg hm hb ha (by decide) (by decide) he rfl
theorem tG(hc:X.calm=true)(hg:Gl X "max")(hm:X.mg "max"=none)(hb:bootBuiltins "max"=some (.builtin "max"))(ha:ko X Xw [e,e2] δs)(he:starEach [e,e2] X.env=(false,eval e X.env)::starEach [e2] X.env:=by rfl)
 (lh:(backTo pos (starEach [e2] X.env)).any (·.1)=false:=by rfl):PD X Xw (.Call (.Name "max" p) [e,e2] [] pos) (dA sT δs):=
 dg (vq hc) (fun Xw F H vs ds Q s h w=>by
  unfold sT at w
  split at w
  ·obtain⟨v,v',rfl,h1,h2⟩:=h.two
   cases (show _=_ from h1)
   cases (show _=_ from h2)
   exact⟨_,_,rfl,WP.now w s rfl⟩
  ·exact w.elim) hg hm hb ha (by decide) (by decide) he lh
theorem yy(hc:X.calm=true)(hg:Gl X "min")(hm:X.mg "min"=none)(hb:bootBuiltins "min"=some (.builtin "min"))(ha:ko X Xw [e,e2] δs)(he:starEach [e,e2] X.env=(false,eval e X.env)::starEach [e2] X.env:=by rfl)
 (lh:(backTo pos (starEach [e2] X.env)).any (·.1)=false:=by rfl):PD X Xw (.Call (.Name "min" p) [e,e2] [] pos) (dA vY δs):=
 dg (vv hc) (fun Xw F H vs ds Q s h w=>by
  unfold vY at w
  split at w
  ·obtain⟨v,v',rfl,h1,h2⟩:=h.two
   cases (show _=_ from h1)
   cases (show _=_ from h2)
   exact⟨_,_,rfl,WP.now w s rfl⟩
  ·exact w.elim) hg hm hb ha (by decide) (by decide) he lh
def nums:List D→Option (List Int)
 |[]=>some []
 | .int x::r=>(nums r).map (x:: ·)
 |_=>none
theorem fP{K:W.Frag}{F:Hp}:∀{ds:List D}{vs:List V}{xs:List Int},nums ds=some xs→DenL K F ds vs→vs=xs.map V.int
 |[],_,_,e,h=>by cases e;exact h
 | .int b::r,_,_,e,⟨v,r',h1,h2,h3⟩=>by
   unfold nums at e
   cases q:nums r with
   |none=>rw[q] at e;cases e
   |some bs=>rw[q] at e;cases e;subst h1;rw[fP q h3,show v= .int b from h2];rfl
 | .non::_,_,_,e,_=>by cases e
 | .str _::_,_,_,e,_=>by cases e
 | .bl _::_,_,_,e,_=>by cases e
 | .raw _::_,_,_,e,_=>by cases e
 | .exc _::_,_,_,e,_=>by cases e
 | .scr _::_,_,_,e,_=>by cases e
 | .tup _::_,_,_,e,_=>by cases e
 | .lst _::_,_,_,e,_=>by cases e
def zR(neg:Bool):D→D→M D
 | .int i, .tup ds=>match nums ds with | some ns=>M.ret (.bl (if neg then !ns.contains i else ns.contains i)) | none=>M.stuck
 |_,_=>M.stuck
theorem xO(i:Int)(ns:List Int):Gi (.int i) (ns.map V.int)=ns.contains i:=by
 unfold Gi
 rw[List.any_map]
 induction ns with
 |nil=>rfl
 |cons n ns ih=>
  rw[List.any_cons,List.contains_cons,ih]
  congr 1
  show zt (.int n) (.int i)=(i==n)
  unfold zt
  exact Bool.beq_comm
theorem Ct{neg:Bool}{K:W.Frag}:se K (Jo K neg) (zR neg):=fun Xw F H x y dx dy Q s hx hy w=>by
 unfold zR at w
 split at w
 ·rename_i i ds
  obtain⟨a,vs,h1,h2,h3,h4⟩:=hy
  split at w
  ·rename_i ns hn
   have hv:=fP hn h3
   subst hv
   cases (show _=_ from hx)
   refine⟨a,ns.map V.int,h1, .inr (SqT.of (s _ _ h2)),rfl,?_,?_⟩
   ·rw[List.all_map]
    exact List.all_eq_true.mpr fun _ _=>rfl
   ·rw[xO]
    exact WP.now w s rfl
  ·exact w.elim
 ·exact w.elim
theorem wo(ha:PD X Xw a δa)(hb:PD X Xw b δb)(hm:behindInMarks .NotIn b=false:=by rfl):m7 X Xw (.Compare a [.NotIn] [b] pos) (b_ (d2 (zR true) δa δb)):=e_ pw Ct ha hb hm
def mJ(neg:Bool):D→D→M D
 | .str x, .str y=>M.ret (.bl (if neg then !(!(Builtin.Str.occurrences y x 0 y.length 1).isEmpty) else !(Builtin.Str.occurrences y x 0 y.length 1).isEmpty))
 |_,_=>M.stuck
theorem C4(ha:PD X Xw a δa)(hb:PD X Xw b δb)(hm:behindInMarks .In b=false:=by rfl):PD X Xw (.Compare a [.In] [b] pos) (d2 (mJ false) δa δb):=yw nS (fun Xw F H x y dx dy Q s hx hy w=>by
 unfold mJ at w
 split at w
 ·exact⟨_,_,hx.1,hy.1,WP.now w s rfl⟩
 ·exact w.elim) ha hb hm
theorem Dt(ha:PD X Xw a δa)(hb:PD X Xw b δb)(hm:behindInMarks .In b=false:=by rfl):m7 X Xw (.Compare a [.In] [b] pos) (b_ (d2 (mJ false) δa δb)):=e_ nS (fun Xw F H x y dx dy Q s hx hy w=>by
 unfold mJ at w
 split at w
 ·exact⟨_,_,hx.1,hy.1,WP.now w s rfl⟩
 ·exact w.elim) ha hb hm
end
end L3
namespace L3
open PySem PySem.Spec L2 SeqAt HT
open PyProof.Rows hiding St
section
variable{prog:Program}{w:World}{A:Around}{E:Value→Shared→Prop}{s:Shared}
theorem gJ{t sl:Addr}{items:Array Value}{vl vu:Value}{lo hi:Option Int}{Q:Value→Shared→Prop}(ht:IsTup s.heap t items)(hs:s.heap.IsSliceOf sl vl vu .none)(pl:IsPart vl lo)(pu:IsPart vu hi)
 (hw:sIx items.size 0 lo=0∧sIx items.size items.size hi=items.size)(h:Q (.ref t) s):wpAny (model prog w) A (getItem (.ref t) (.ref sl)) Q E s:=by
 obtain⟨os,qE,B8,vF⟩:=id hs
 have EE:s.TypeIs (.ref sl) "slice":=⟨os,qE,B8⟩
 unfold getItem
 try with_reducible refine wpAny_holding ?_
 first | refine wpAny_bind (wpAny_pure ?_) | skip
 refine wpAny_bind (wpAny_sequenceKey ht.typeIs (by decide) ?_)
 refine wpAny_bind (wpAny_callSpecial?_slot (name:=Str.ofString "__getitem__") ht.typeIs PyProof.Rows.slot_tuple_getitem
  (wpAny_call_entry PyProof.Rows.slot_tuple_getitem ht.typeIs entry_tuple_getitem ?_ (args_tuple_getitem _ _)))
 show wpAny _ _ (Builtin.Tuple.tupleItemsOf (.ref t)>>=_) _ _ s
 refine wpAny_bind (tupleItemsOf_ ht ?_)
 refine wpAny_bind (wpAny_typeOf EE ?_)
 rw[if_pos (by decide)]
 refine wpAny_bind (sliceApplied_gen hs pl pu ?_)
 have qD:((((sIx items.size 0 lo:Nat):Int)==0&&(1:Int)==1&&(sIx items.size items.size hi - sIx items.size 0 lo)==items.size)=true):=by
  rw[hw.1,hw.2]
  simp
 show wpAny _ _ (if (((sIx items.size 0 lo:Nat):Int)==0&&(1:Int)==1&&(sIx items.size items.size hi - sIx items.size 0 lo)==items.size)=true then _ else _) _ _ s
 rw[if_pos qD]
 refine wpAny_bind ?_
 unfold Builtin.Tuple.tupleIsExact
 refine wpAny_bind (wpAny_typeOf ht.typeIs (wpAny_pure ?_))
 rw[if_pos (by decide)]
 exact wpAny_bind (wpAny_rule (wpAny_pure ⟨_,rfl,wpAny_pure h⟩))
end
section
variable{X:Cx}{Xw:Nat→Hp→Prop}{a b e:Expr}{lo hi:Option Expr}{δ δa δb:DE}{pos p p2:Pos}
theorem AY:SlR X (fun x lo hi H Q=>∃a xs,x= .ref a∧SqT X.K H a xs∧(sIx xs.length 0 lo=0∧sIx xs.length xs.length hi=xs.length)∧Q (.ref a) H):=by
 intro pins s σ H x v vl vu lo hi sl Q I rx hs pl pu h
 obtain⟨a,xs,rfl,hx,hw,q⟩:=h
 cases rx
 obtain⟨aA,r,ht,hz⟩:=I.tuple hx
 have hlen:aA.toArray.size=xs.length:=by rw[List.size_toArray];exact r.length.symm
 exact⟨"tuple",_,PyProof.Rows.slot_tuple_getitem.lookup,ht.typeIs,gJ ht hs pl pu (by rw[hlen];exact hw) ⟨.ref a,H,I,rfl,q⟩⟩
theorem DJ:SlR X (fun x lo hi H Q=>∃z:Str,x= .str z∧z.length≤lim∧Q (.str (Txt.slice z lo hi)) H):=by
 intro pins s σ H x v vl vu lo hi sl Q I rx hs pl pu h
 obtain⟨z,rfl,hl,q⟩:=h
 obtain⟨t,rfl⟩:=rx
 have hz:z.length≤sizeLine:=by have:=cW;omega
 cases pl with
 |none=>
  cases pu with
  |none=>exact⟨"str",_,PySem.F.slot_str_getitem.lookup,typeIs_str _ _ _,wpAny_getItem_str_slice (l:=none) (u:=none) (st:=none) hs rfl (post_val_or_str ⟨Nat.le_trans (Txt.slice_le z _ _) hz,fun t' k=>⟨.str _,H,I.tok k,⟨t',rfl⟩,q⟩⟩)⟩
  |int j uj=>exact⟨"str",_,PySem.F.slot_str_getitem.lookup,typeIs_str _ _ _,wpAny_getItem_str_slice (l:=none) (u:=some (j,uj)) (st:=none) hs rfl (post_val_or_str ⟨Nat.le_trans (Txt.slice_le z _ _) hz,fun t' k=>⟨.str _,H,I.tok k,⟨t',rfl⟩,q⟩⟩)⟩
 |int i ui=>
  cases pu with
  |none=>exact⟨"str",_,PySem.F.slot_str_getitem.lookup,typeIs_str _ _ _,wpAny_getItem_str_slice (l:=some (i,ui)) (u:=none) (st:=none) hs rfl (post_val_or_str ⟨Nat.le_trans (Txt.slice_le z _ _) hz,fun t' k=>⟨.str _,H,I.tok k,⟨t',rfl⟩,q⟩⟩)⟩
  |int j uj=>exact⟨"str",_,PySem.F.slot_str_getitem.lookup,typeIs_str _ _ _,wpAny_getItem_str_slice (l:=some (i,ui)) (u:=some (j,uj)) (st:=none) hs rfl (post_val_or_str ⟨Nat.le_trans (Txt.slice_le z _ _) hz,fun t' k=>⟨.str _,H,I.tok k,⟨t',rfl⟩,q⟩⟩)⟩
abbrev DO:=aY→M (Option Int)
def WPO(Xw:Nat→Hp→Prop)(F H:Hp)(m:M (Option Int))(Q:Option Int→Hp→Prop):Prop:=
 match m with
 |none=>False
 |some (.ok b)=>∀H' F',Ext F H F' H'→Q b H'
 |some (.ex n)=>∀F' H',Ext F H F' H'→Xw n H'
def KS(K:W.Frag)(Xw:Nat→Hp→Prop)(δ:DO):TO:=fun σ H Q=>∃F ρ,StE K F H σ ρ∧WPO Xw F H (δ ρ) Q
def FZ(X:Cx)(Xw:Nat→Hp→Prop)(e:Option Expr)(δ:DO):Prop:=PO X e (KS X.K Xw δ)
def oN:DO:=fun _=>M.ret none
def oS(δ:DE):DO:=fun ρ=>δ ρ>>=fun d=>match d with | .int i=>M.ret (some i) | _=>M.stuck
theorem rm:FZ X Xw none oN:=fun pins s σ H Q I ⟨F,ρ,S,w⟩=>AE pins s σ H Q I (w H F (Ext.refl S.fh))
theorem rn(h:PD X Xw e δ):FZ X Xw (some e) (oS δ):=fun pins s σ H Q I ⟨F,ρ,S,w⟩=>AF h pins s σ H Q I ⟨F,ρ,S,by
 have w:WPO Xw F H (δ ρ>>=fun d=>match d with | .int i=>M.ret (some i) | _=>M.stuck) Q:=w
 rcases(δ ρ).cs with q | ⟨n,q⟩ | ⟨d,q⟩
 ·rw[q] at w;exact w.elim
 ·rw[q] at w⊢;exact w
 ·rw[q] at w⊢
  intro v H' F' e' hd
  cases d with
  |int i=>exact⟨i,hd,w H' F' e'⟩
  |_=>exact w.elim⟩
theorem WP.bindO{K:W.Frag}{Xw:Nat→Hp→Prop}{F H:Hp}{Q:VK}{m:M (Option Int)}{k:Option Int→M D}(h:WP K Xw F H (m>>=k) Q):WPO Xw F H m fun b H1=>∃F1,Ext F H F1 H1∧WP K Xw F1 H1 (k b) Q:=by
 match m,h with
 |none,h=>exact h
 |some (.ok d),h=>exact fun H2 F2 e2=>⟨F2,e2,WP.ext e2 (show WP K Xw F H (k d) Q from h)⟩
 |some (.ex n),h=>exact h
theorem WPO.mono{Xw:Nat→Hp→Prop}{F H:Hp}{m:M (Option Int)}{Q Q':Option Int→Hp→Prop}(h:WPO Xw F H m Q)(k:∀v H',Q v H'→Q' v H'):WPO Xw F H m Q':=by
 match m,h with
 |none,h=>exact h
 |some (.ok d),h=>exact fun H2 F2 e2=>k _ _ (h H2 F2 e2)
 |some (.ex n),h=>exact h
def cutD(ds:List D)(lo hi:Option Int):List D:=(ds.drop (sIx ds.length 0 lo)).take (sIx ds.length ds.length hi - sIx ds.length 0 lo)
def KP:D→Option Int→Option Int→M D
 | .tup ds,lo,hi=>M.ret (.tup (cutD ds lo hi))
 | .lst ds,lo,hi=>M.ret (.lst (cutD ds lo hi))
 | .str x,lo,hi=>M.ret (.str (Txt.slice x lo hi))
 |_,_,_=>M.stuck
def DX(a:DE)(lo hi:DO):DE:=fun ρ=>a ρ>>=fun d=>lo ρ>>=fun l=>hi ρ>>=fun h=>KP d l h
theorem qp(ds:List D)(lo hi:Option Int):(cutD ds lo hi).length≤ds.length:=by
 unfold cutD
 rw[List.length_take,List.length_drop]
 omega
theorem DenL.cut{K:W.Frag}{F:Hp}{ds:List D}{vs:List V}(h:DenL K F ds vs)(lo hi:Option Int):DenL K F (cutD ds lo hi) (qq vs lo hi):=by
 unfold cutD qq
 rw[h.len]
 exact(h.drop _).take _
theorem BH{δo:DE}{κl κh:DO}(he:PD X Xw e δo)(hl:FZ X Xw lo κl)(hh:FZ X Xw hi κh):PD X Xw (.Subscript e (.Slice lo hi none p2) pos) (DX δo κl κh):=
 PE.weak (yH (AY.or (DK.or (AX.or DJ))) he hl hh) fun σ H Q ⟨F,ρ,s,w⟩=>by
  refine⟨F,ρ,s,WP.mono (WP.bind w) fun v H1 ⟨F1,d,e1,q1,w1⟩=>?_⟩
  refine⟨F1,ρ,s.ext e1,WPO.mono (WP.bindO w1) fun l H2 ⟨F2,e2,w2⟩=>?_⟩
  refine⟨F2,ρ,(s.ext e1).ext e2,WPO.mono (WP.bindO w2) fun h H3 ⟨F3,e3,w3⟩=>?_⟩
  have q3:=Den.mono (e2.ff.trans e3.ff) q1
  have fh:=e3.fh
  cases d with
  |tup ds=>
   obtain⟨a,vs,rfl,h2,h3,h4⟩:=q3
   by_cases hw:sIx vs.length 0 l=0∧sIx vs.length vs.length h=vs.length
   ·refine .inl ⟨a,vs,rfl,SqT.of (fh _ _ h2),hw,?_⟩
    have hc:cutD ds l h=ds:=by
     unfold cutD
     rw[h3.len,hw.1,hw.2,Nat.sub_zero,List.drop_zero,←h3.len,List.take_length]
    have w3:WP X.K Xw F3 H3 (M.ret (.tup (cutD ds l h))) Q:=w3
    rw[hc] at w3
    exact WP.now w3 fh ⟨a,vs,rfl,h2,h3,h4⟩
   ·exact .inr (.inl ⟨a,vs,rfl,SqT.of (fh _ _ h2),hw,fun p hp=>WP.fin w3 (Ext.lay fh hp) ⟨p,_,rfl,aD,DenL.mono (Ext.lay fh hp).ff (h3.cut l h),Nat.le_trans (qp _ _ _) h4⟩⟩)
  |lst ds=>
   obtain⟨a,vs,rfl,h2,h3,h4⟩:=q3
   exact .inr (.inr (.inl ⟨a,vs,rfl,SqL.of (fh _ _ h2),fun p hp=>WP.fin w3 (Ext.lay fh hp) ⟨p,_,rfl,aD,DenL.mono (Ext.lay fh hp).ff (h3.cut l h),Nat.le_trans (qp _ _ _) h4⟩⟩))
  |str x=>exact .inr (.inr (.inr ⟨x,q3.1,q3.2,WP.now w3 fh ⟨rfl,Nat.le_trans (Txt.slice_le x _ _) q3.2⟩⟩))
  |_=>exact w3.elim
end
section
variable{prog:Program}{w:World}{A:Around}{E:Value→Shared→Prop}{s:Shared}
end
section
variable{X:Cx}{Xw:Nat→Hp→Prop}{a b e:Expr}{δ δa δb:DE}{pos p p2:Pos}
end
def FX(x:Str):It:=⟨fun i _=>i<x.cps.size,fun i H v H'=>H'=H∧∃c,x.cps[i]? =some c∧v= .str ⟨#[c]⟩,fun i _=>x.cps.size≤i⟩
theorem wH{P:Program}{w:World}{K:W.Frag}{tg:Expr}(it:Addr)(x:Str)(t:Tok):Turn P w K tg (FX x) [it] it (fun i h=>i≤x.cps.size∧h.IsStrIter it "str_ascii_iterator" x t i) where
 mem:=by simp
 obj:=fun i h st b hb=>by
  have e:b=it:=by simpa using hb
  subst e
  obtain⟨_,o,e,c,d⟩:=st
  exact⟨o,e,fun v z=>by rw[d] at z;cases z⟩
 keep:=fun i h h' st k=>⟨st.1,let ⟨o,e,r⟩:=st.2;⟨o,k it (by simp) o e,r⟩⟩
 item:=by
  intro X hP hw hK hc i pins s σ H E I hf st hg
  subst hP hw hK
  obtain⟨f0,f1,f2,f3,f4,f5⟩:=hf it (by simp)
  have hi:i<x.cps.size:=hg
  refine(Walks.strAscii (prog:=X.prog) (w:=X.w) (I.ok.hd hc) it x t).item i s _ _ hi st.2 fun v h' tk hv jB kk=>?_
  obtain⟨c,u,G1,rfl⟩:=hv
  have I1:Inv X pins σ H {s with heap:=h',toks:=tk}:=I.turned (fun b o hb e=>kk b o (by simpa using hb) e) f0 f1 f3 f4 f5
  obtain⟨o,e,cc,dd⟩:=id jB
  exact⟨_,rfl,k_ (s:={s with heap:=h',toks:=tk}) e cc dd (by decide) ⟨.str ⟨#[c]⟩,H,I1,⟨u,rfl⟩,⟨rfl,c,G1,rfl⟩,⟨hi,jB⟩,fun b hb=>(hf b hb).1⟩⟩
 done:=by
  intro X hP hw hK hc i pins s σ H E I hf st hg
  subst hP hw hK
  obtain⟨f0,f1,f2,f3,f4,f5⟩:=hf it (by simp)
  have hi:i=x.cps.size:=Nat.le_antisymm st.1 hg
  subst hi
  exact(Walks.strAscii (prog:=X.prog) (w:=X.w) (I.ok.hd hc) it x t).done s _ _ st.2 fun h' tk kk=>⟨rfl,I.turned (fun b o hb e=>kk b o (by simpa using hb) e) f0 f1 f3 f4 f5⟩
 self:=fun _ _ _ _ _ st h=>wpAny_pyIter_striter_ascii st.2 h
theorem wI{P:Program}{w:World}{K:W.Frag}{tg:Expr}(it:Addr)(x:Str)(t:Tok):Turn P w K tg (FX x) [it] it (fun i h=>i≤x.cps.size∧h.IsStrIter it "str_iterator" x t i) where
 mem:=by simp
 obj:=fun i h st b hb=>by
  have e:b=it:=by simpa using hb
  subst e
  obtain⟨_,o,e,c,d⟩:=st
  exact⟨o,e,fun v z=>by rw[d] at z;cases z⟩
 keep:=fun i h h' st k=>⟨st.1,let ⟨o,e,r⟩:=st.2;⟨o,k it (by simp) o e,r⟩⟩
 item:=by
  intro X hP hw hK hc i pins s σ H E I hf st hg
  subst hP hw hK
  obtain⟨f0,f1,f2,f3,f4,f5⟩:=hf it (by simp)
  have hi:i<x.cps.size:=hg
  refine(Walks.strWide (prog:=X.prog) (w:=X.w) (I.ok.hd hc) it x t).item i s _ _ hi st.2 fun v h' tk hv jB kk=>?_
  obtain⟨c,u,G1,rfl⟩:=hv
  have I1:Inv X pins σ H {s with heap:=h',toks:=tk}:=I.turned (fun b o hb e=>kk b o (by simpa using hb) e) f0 f1 f3 f4 f5
  obtain⟨o,e,cc,dd⟩:=id jB
  exact⟨_,rfl,k_ (s:={s with heap:=h',toks:=tk}) e cc dd (by decide) ⟨.str ⟨#[c]⟩,H,I1,⟨u,rfl⟩,⟨rfl,c,G1,rfl⟩,⟨hi,jB⟩,fun b hb=>(hf b hb).1⟩⟩
 done:=by
  intro X hP hw hK hc i pins s σ H E I hf st hg
  subst hP hw hK
  obtain⟨f0,f1,f2,f3,f4,f5⟩:=hf it (by simp)
  have hi:i=x.cps.size:=Nat.le_antisymm st.1 hg
  subst hi
  exact(Walks.strWide (prog:=X.prog) (w:=X.w) (I.ok.hd hc) it x t).done s _ _ st.2 fun h' tk kk=>⟨rfl,I.turned (fun b o hb e=>kk b o (by simpa using hb) e) f0 f1 f3 f4 f5⟩
 self:=fun _ _ _ _ _ st h=>wpAny_pyIter_striter_wide st.2 h
section
variable{X:Cx}{Xw:Nat→Hp→Prop}{tg a b e l o:Expr}{δ δa δb δo:DE}{δs:DA}{pos p p2 apos a5:Pos}
def Hu(tl:TE):TI:=fun σ H R=>tl σ H fun x H1=>∃z,x= .str z∧R (FX z) H1
theorem Dm{tl:TE}(hl:PE X l tl):PI X tg l (Hu tl):=by
 intro pins s σ H R I h
 refine bI (hl pins s σ H _ I h) fun v s1 ⟨x,H1,I1,r1,q1⟩=>?_
 obtain⟨z,e,q⟩:=q1
 subst e
 obtain⟨t,rfl⟩:=r1
 have fp:∀b∈[s1.heap.objs.size],qc X pins H1 b:=fun b hb=>by
  have e:b=s1.heap.objs.size:=by simpa using hb
  subst e
  exact I1.fpOk (Nat.le_refl _) (I1.hok.fresh (Nat.le_refl _))
 cases ha:z.cps.all (· <128)
 ·exact wpAny_pyIter_wide ha ⟨s1.heap.objs.size,[s1.heap.objs.size],_,_,H1,rfl,I1.kept (t':=s1.toks) fun b o e=>Heap.get?_push_of_some _ e,wI _ z t,⟨Nat.zero_le _,_,Heap.get?_push_size _ rfl,rfl,rfl⟩,fp,q⟩
 ·exact wpAny_pyIter_ascii ha ⟨s1.heap.objs.size,[s1.heap.objs.size],_,_,H1,rfl,I1.kept (t':=s1.toks) fun b o e=>Heap.get?_push_of_some _ e,wH _ z t,⟨Nat.zero_le _,_,Heap.get?_push_size _ rfl,rfl,rfl⟩,fp,q⟩
def signs(x:Str):List D:=x.cps.toList.map fun c=>D.str ⟨#[c]⟩
def AW:D→M (List D)
 | .str x=>M.ret (signs x)
 |_=>M.stuck
theorem z5{K:W.Frag}{F:Hp}(x:Str):ItD K F (FX x) (signs x):=fun F' H' i s1 s2=>by
 refine⟨fun d e=>?_,fun hl=>show x.cps.size≤i by simpa[signs] using hl⟩
 unfold signs at e
 rw[List.getElem?_map] at e
 cases q:x.cps.toList[i]? with
 |none=>rw[q] at e;cases e
 |some c=>
  rw[q] at e
  cases e
  have hi:i<x.cps.size:=by
   have:=(List.getElem?_eq_some_iff.mp q).1
   simpa using this
  refine⟨hi,fun v H'' y=>?_⟩
  obtain⟨e2,c',Br,rfl⟩:=y
  subst e2
  have:c'=c:=by
   have q':x.cps[i]? =some c:=by simpa using q
   rw[q'] at Br
   exact(Option.some.inj Br).symm
  subst this
  exact⟨F',Ext.refl s2,rfl,by show 1≤lim;decide⟩
theorem uY(h:PD X Xw l δ):t_ X Xw tg l (fun ρ=>δ ρ>>=AW):=PI.weak (Dm h) fun σ H R ⟨F,ρ,s,w⟩=>by
 refine⟨F,ρ,s,WP.mono (WPI.bind w) fun v H1 ⟨F1,d,e1,q1,w1⟩=>?_⟩
 cases d with
 |str z=>exact⟨z,q1.1,w1 _ _ _ (Ext.refl e1.fh) (z5 z)⟩
 |_=>exact w1.elim
end
end L3
namespace L3
open PySem PySem.Spec L2 SeqAt HT
open PyProof.Rows hiding St
open PySem.W (Frag Looks InstAt findIn mroIn)
open PySem.Builtin PySem.Builtin.ObjectAttr PySem.Builtin.Getset_descriptor
section
variable{prog:Program}{w:World}{A:Around}{E:Value→Shared→Prop}{h:Heap}{g:Array GenState}{d:Drawn}{t:Nat}{os:OsState}{x D:Addr}{ox:Obj}{K:Frag}
structure ExcC (K:Frag) (D:Addr):Prop where
 ga:findIn K (.ref D) "__getattribute__"=some (some (.builtin "BaseException.__getattribute__"))
 gt:findIn K (.ref D) "__getattr__"=some none
 ca:findIn K (.ref D) "__class__"=some (some (.builtin "object.__class__"))
 mo:mroIn K D (.type "object")=some true
 mb:mroIn K D (.type "BaseException")=some true
 cl:(PySem.W.clsIn K D).isSome=true
end
section
variable{X:Cx}{Xw:Nat→Hp→Prop}{e e2:Expr}{δs:DA}{pos p:Pos}
end
end L3
namespace L3
open PySem PySem.Spec L2 SeqAt HT
open PyProof.Rows hiding St
open PySem.W (Frag Looks findIn mroIn)
section
variable{X:Cx}{pins pn:List (Addr×Obj)}{σ:St}{H:Hp}{s:Shared}{E:Value→Shared→Prop}{ea:Addr}
end
section
variable{P:Program}{w:World}{K:W.Frag}{mg:Str→Option Value}{base:Heap}{N:List Str}{qual:Str}{scope:Scope}{f:Addr}{cd:Value}{A:Around}{outer:List Env}{s₀:Shared}{H₀:Hp}{E:XK}{cv:Nat→Value}
end
end L3
namespace L3
open PySem PySem.Spec L2 SeqAt HT
open PyProof.Rows hiding St
structure RoomH (k:Nat) (A:Around):Prop where
 dp:A.depth+3*k+5<recursionLimit
 un:A.units+16*k+200<cLine
theorem RoomH.units{k:Nat}{A:Around}(r:RoomH k A):A.units+64<cLine:=by have:=r.un;omega
structure FnOkH (P:Program) (w:World) (K:W.Frag) (mg:Str→Option Value) (base:Heap) (k:Nat) (f:Addr) (fd:FuncData) (ps:List Str) (sp:Sp):Prop where
 len:∀vs H Q E,sp vs H Q E→vs.length=ps.length
 run:∀(A:Around) (outer:List Env) (s:Shared) (H:Hp) (args:Args) (us:List Value) (vs:List V) (Q:VK) (E:XK),RoomH k A→Env0 P w K mg base A outer s H→BindsTo s fd args (ps.zip us)→Vals vs us→sp vs H Q E→
  codeAny (model P w) A (.call (.ref f) args) (CR Jx outer P w H s Q E) s
section
variable{P:Program}{w:World}{K:W.Frag}{mg:Str→Option Value}{base:Heap}{cv:Nat→Value}
end
section
variable{X:Cx}{Xw:Nat→Hp→Prop}{cv:Nat→Value}{k m:Nat}{f:Addr}{fd:FuncData}{ps:List Str}{g:List D→M D}{x:Str}{p pos:Pos}{e:Expr}{es:List Expr}{δs:DA}
end
def um(N:List Str)(osc scope:Scope)(tn:List Str):Bool:=
 decide (scope.kind= .function)&&scope.names.all (fun y=>decide (y.2≠ .cell))&&scope.names.all (fun y=>decide (y.2= .local→scope.names.lookup y.1=some .local))&&
 scope.names.all (fun y=>decide (y.2= .free→(osc.names.lookup y.1=some .cell∨osc.names.lookup y.1=some .free)))&&
 ((bU tn N).zip N).all (fun p=>decide (scope.names.lookup p.1=none∨(p.1=p.2∧scope.names.lookup p.1=some .free)))
theorem aZ{X:Cx}{N:List Str}{osc scope:Scope}{tn:List Str}(hN:X.N=N)(ho:X.env.scope=osc)(h:um N osc scope tn=true):CompSc X scope tn:=by
 unfold um at h
 simp only[Bool.and_eq_true,List.all_eq_true,decide_eq_true_eq] at h
 obtain⟨⟨⟨⟨h1,h2⟩,h3⟩,h4⟩,h5⟩:=h
 refine⟨h1,h2,h3,fun y hy hf=>?_,?_⟩
 ·have:=h4 y hy hf
  rw[←ho] at this
  exact this
 ·rw[hN]
  exact h5
theorem bX{X:Cx}{x:Str}{px:Pos}{σ:St}(hN:X.N.Nodup)(h0:X.N[0]? =some x)(Cd:X.env.scope.names.lookup x=some .local):vg X (.Name x px) 0 σ:=fun pins s σ' F H d ts v u I fh hd rv q e=>by
 have e:M.ret [d]=M.ret ts:=e
 have e:=dB e
 subst e
 refine wpAny_assign_Name (rP I hN h0 (.inl Cd) rv (fun s' I'=>⟨[v],?_, .cons q .nil⟩) (.inr Cd))
 have hl:0<σ'.length:=by rw[I.len];exact(List.getElem?_eq_some_iff.mp h0).1
 have:σ'.set 0 (some v)=[v].map some++σ:=by
  cases σ' with
  |nil=>simp at hl
  |cons a r=>
   have hd:r=σ:=by simpa using hd
   subst hd
   rfl
 rw[←this]
 exact I'
theorem cT{P:Program}{w:World}{cv:Nat→Value}{X:Cx}:Passes (i7 P w cv) X (EX cv fun _ _=>False):=fun _ _ _ _ _ _ _ ⟨_,_,_,_,_,_,_,_,_,_,_,_,_,_,z⟩=>z.elim
def a_(K:W.Frag)(mg:Str→Option Value)(x:Str)(st:Stmt)(f:Addr):Prop:=mg x=some (.ref f)∧∃fd,Fun K x x st f fd
def ah(P:Program)(w:World)(K:W.Frag)(mg:Str→Option Value)(base:Heap)(cv:Nat→Value)(k:Nat)(x:Str)(m:Nat)(g:List D→M D):Prop:=
 ∃f fd ps,mg x=some (.ref f)∧PySem.W.keepIn K (.ref f)=true∧Binds K fd ps []∧FnOk P w K mg base (i7 P w cv) k f fd ps (D8 K cv m g)
section
variable{X:Cx}{Xw:Nat→Hp→Prop}{cv:Nat→Value}{k m:Nat}{g:List D→M D}{x:Str}{p pos:Pos}{e:Expr}{es:List Expr}{δs:DA}
def ak(m:Nat)(g:List D→M D)(δs:DA):DE:=fun ρ=>δs ρ>>=fun ds=>if ds.length=m then g ds else M.stuck
theorem aK(F:ah X.prog X.w X.K X.mg X.base cv k x m g)(hr:Room k X.A)(hg:Gl X x)(hx:Passes (i7 X.prog X.w cv) X (EX cv Xw))
 (ha:ko X Xw (e::es) δs)(hl:(e::es).length=m)(oR:(x==("__debug__":Str))=false:=by decide)(he:starEach (e::es) X.env=(false,eval e X.env)::starEach es X.env:=by rfl)(lh:(backTo pos (starEach es X.env)).any (·.1)=false:=by rfl):
 PD X Xw (.Call (.Name x p) (e::es) [] pos) (ak m g δs):=by
 obtain⟨f,fd,ps,h1,h2,h3,h4⟩:=F
 exact Aq h4 hr hg h1 h2 h3 hx ha hl oR he lh
end
theorem ax{P:Program}{w:World}{K:W.Frag}{mg:Str→Option Value}{base:Heap}{cv:Nat→Value}{k:Nat}{x:Str}{st:Stmt}{f:Addr}{N ps:List Str}{τ:DS}(T:a_ K mg x st f)(S:FnScope N ps (af st))
 (II:∀(kV doc pm:Value) (an:Option Addr) (bp ct:Value) (us:List Value),us.length=ps.length→bindArgs (PySem.W.fnOf x x (c6 st) (aO st) (af st) .none kV doc pm an bp ct) ⟨us,[]⟩=pure (ps.zip us))
 (qB:∀(bp:Value) (A:Around) (outer:List Env) (s:Shared) (H:Hp) (E:XK),Room k (A.deeper (envOfC x (af st) s.heap.objs.size f bp))→
  PSDs (de (i7 P w cv) P w K mg base N x (af st) f bp A outer s H E) (fun n H'=>E (cv n) none H') (aO st) τ):ah P w K mg base cv (k+1) x ps.length (bJ N.length τ):=by
 obtain⟨h1,fd,Fn⟩:=T
 exact⟨f,fd,ps,h1,Fn.kp,Fn.binds II,Ey Fn S qB⟩
section
variable{X:Cx}{Xw:Nat→Hp→Prop}{a e:Expr}{δ:DE}{pos:Pos}
def CO:D→M D
 | .int i=>M.ret (.int (-i))
 |_=>M.stuck
theorem C7(ha:PD X Xw a δ):PD X Xw (.UnaryOp .USub a pos) (d1 CO δ):=PE.weak (Fw DU ha) fun σ H Q ⟨F,ρ,s,w⟩=>by
 refine⟨F,ρ,s,WP.mono (WP.bind w) fun v H1 ⟨F1,d,e1,q,w1⟩=>?_⟩
 cases d with
 |int i=>
  have q:v= .int i:=q
  subst q
  exact⟨i,rfl,WP.now w1 e1.fh rfl⟩
 |_=>exact w1.elim
end
section
variable{X:Cx}{Xw:Nat→Hp→Prop}{pos:Pos}
theorem uX{x z:Str}(hg:Gl X x)(h:∃t,X.mg x=some (.str z t))(hz:z.length≤lim)(oR:(x==("__debug__":Str))=false:=by decide):PD X Xw (.Name x pos) (dC (.str z)):=by
 obtain⟨t,h⟩:=h
 exact uV (v:= .str z) hg h ⟨t,rfl⟩ (fun _=>⟨rfl,hz⟩) oR
theorem pD{x:Str}{i:Int}(hg:Gl X x)(h:∃t,X.mg x=some (.int i t))(oR:(x==("__debug__":Str))=false:=by decide):PD X Xw (.Name x pos) (dC (.int i)):=by
 obtain⟨t,h⟩:=h
 exact uV (v:= .int i) hg h ⟨t,rfl⟩ (fun _=>rfl) oR
end
structure Box (p:Prop):Prop where
 out:p
section
variable{X:Cx}{Xw:Nat→Hp→Prop}{a:Expr}{δa:DE}{pos:Pos}
theorem ei{st:Stmt}{rest:List Stmt}{τ τ':DS}(h1:Box (g0 X Xw st τ))(h2:Box (PSDs X Xw rest τ')):Box (PSDs X Xw (st::rest) (aH τ τ')):=⟨ao h1.out h2.out⟩
theorem BS{st:Stmt}{τ:DS}(h1:Box (g0 X Xw st τ)):Box (PSDs X Xw [st] τ):=⟨aj h1.out⟩
end
theorem FW{l:PySem.W.OpenLaw}{n k:Nat}{q:Program}{loose:List Str}{XP:(Str→Option Value)→Heap→Prop}{YP:World→Heap→Prop}{d:DefRec}{K:Params→W.Frag}{x:Str}{g:List D→M D}
 (hn:l.most=some n)(Gd:n≤lim)(EM:d.params.defaults=[])(hr:Room k callerA)
 (hY:∀(w:World) (h:Heap),YP w h→(K w.params).In h)(hg:∀ns:List Int,ns.length≤n→g [.scr ns]=M.ret (.bl true))
 (F:∀(w:World) (mg:Str→Option Value) (fa:Addr) (h:Heap),(K w.params).In h→h.Ns mainGlobals mg→mg d.name=some (.ref fa)→
  ∃(cv:Nat→Value) (fd:FuncData),(∀(s:Shared) (u:Value),BindsTo s fd ⟨[u],[]⟩ [(x,u)])∧
   ∀base:Heap,(K w.params).In base→base.Ns mainGlobals mg→FnOk l.prog w (K w.params) mg base (i7 l.prog w cv) k fa fd [x] (D8 (K w.params) cv 1 g)):
 PySem.W.WalkO q loose XP YP l.row.toRowW d [] (fun f vs=>PySem.call f vs):=by
 refine Att.attach_call hn EM fun w s₀ s₁ mg mb fa o pm cd doc a vs ns G Y ho hd wN Cf xM hints hlen Ka=>?_
 have KX:=hY w _ Y
 obtain⟨cv,fd,hb,hF⟩:=F w mg fa _ KX G.T.g Cf
 refine qJ KX G.T.g G.T.b G.T.builtins G.T.nolimit Ka xM hints (Nat.le_trans hlen (Nat.le_trans Gd (Nat.le_of_lt cW))) hr hF hb (fun H hO hS=>?_) fun H e s' z=>?_
 ·refine⟨H,[.scr ns],fun _ _ e=>e,⟨_,_,rfl,⟨a,rfl,hS,Nat.le_trans hlen Gd⟩,rfl⟩,rfl,?_⟩
  rw[hg ns hlen]
  exact fun v H' F' e q=>q
 ·obtain⟨_,_,_,_,_,_,_,_,_,_,_,_,_,_,y⟩:=z
theorem n_(n:Nat):(List.range n).map (fun k=>n - 1 - k)=(List.range n).reverse:=by
 apply List.ext_getElem
 ·simp
 ·intro i h1 h2
  simp at h1
  rw[List.getElem_reverse]
  simp
theorem rp{α:Type}(xs:Array α):(List.range xs.size).reverse.filterMap (fun k=>xs[k]?)=xs.toList.reverse:=by
 rw[List.filterMap_reverse]
 congr 1
 have:∀n,n≤xs.size→(List.range n).filterMap (fun k=>xs[k]?)=xs.toList.take n:=by
  intro n
  induction n with
  |zero=>intro _;rfl
  |succ n ih=>
   intro h
   have e:xs[n]? =some xs[n]:=Array.getElem?_eq_getElem (by omega)
   rw[List.range_succ,List.filterMap_append,ih (by omega),List.take_add_one]
   simp[e]
 rw[this xs.size (Nat.le_refl _),←Array.length_toList,List.take_length]
theorem ix{α β:Type}{f g:α→Option β}:∀{l:List α},(∀x∈l,f x=g x)→l.filterMap f=l.filterMap g
 |[],_=>rfl
 |a::l,h=>by rw[List.filterMap_cons,List.filterMap_cons,h a (List.mem_cons_self ..),ix fun x hx=>h x (List.mem_cons_of_mem _ hx)]
theorem tL(n:Nat):sliceRange ((n:Int) - 1) (-1) (-1)=(List.range n).reverse:=by
 rw[←n_]
 unfold sliceRange
 have e1:¬((-1:Int)>0):=by omega
 simp only[e1,if_false]
 by_cases h:(n:Int) - 1> -1
 ·simp only[h,if_true]
  have e2:((((n:Int) - 1 - -1 - -1 - 1) / (- -1)).toNat)=n:=by
   have:(n:Int) - 1 - -1 - -1 - 1=n:=by omega
   rw[this]
   simp
  rw[e2]
  refine List.map_congr_left fun k hk=>?_
  have:=List.mem_range.mp hk
  omega
 ·simp only[h,if_false]
  have:n=0:=by omega
  subst this
  rfl
def kx(x:Str):Str:=⟨x.cps.toList.reverse.toArray⟩
theorem lZ(x:Str):(kx x).length=x.length:=by
 show x.cps.toList.reverse.toArray.size=x.cps.size
 simp
section
variable{prog:Program}{w:World}{A:Around}{E:Value→Shared→Prop}{s:Shared}
theorem x9(x:Str)(t u:Tok):sliceMade x t none none (some (-1,u))= .str (kx x):=by
 unfold sliceMade slicePicked
 have h:¬((((some ((-1:Int),u)).map (·.1)).getD 1==1&&(Builtin.Str.strSliceIndices none none (-1) x.length).length==x.length)=true):=by
  intro q
  rw[Bool.and_eq_true] at q
  exact absurd (show ((-1:Int)==1)=true from q.1) (by decide)
 have e:Builtin.Str.strSliceIndices none none (-1) x.length=(List.range x.length).reverse:=by
  unfold Builtin.Str.strSliceIndices
  exact tL x.length
 show (if ((((some ((-1:Int),u)).map (·.1)).getD 1==1&&(Builtin.Str.strSliceIndices none none (-1) x.length).length==x.length)=true) then Made.val (.str x t) else Made.str ⟨((Builtin.Str.strSliceIndices none none (-1) x.length).filterMap (x.cps[·]?)).toArray⟩)=_
 rw[if_neg h,e]
 show Made.str ⟨((List.range x.cps.size).reverse.filterMap (x.cps[·]?)).toArray⟩=_
 rw[rp]
 rfl
theorem qe{sl:Addr}{u:Tok}{n:Nat}{Q:Int×Int×Nat→Shared→Prop}(hs:s.heap.IsSliceOf sl .none .none (.int (-1) u))(h:Q ((n:Int) - 1,-1,n) s):
 wpAny (model prog w) A (Builtin.Slice.sliceApplied (.ref sl) (pure (n:Int))) Q E s:=by
 obtain⟨os,qE,B8,vF⟩:=id hs
 unfold Builtin.Slice.sliceApplied Builtin.Slice.sliceFields
 refine wpAny_bind (wpAny_bind (wpAny_field qE vF (x:= .none) rfl (wpAny_bind (wpAny_field qE vF (x:= .none) rfl (wpAny_bind (wpAny_field qE vF (x:= .int (-1) u) rfl (wpAny_pure ?_)))))))
 refine wpAny_bind (slicePart_int ?_)
 show wpAny _ _ (if ((-1:Int)==0)=true then _ else _) _ _ s
 rw[if_neg (by decide)]
 refine wpAny_bind (slicePart_none (wpAny_bind (slicePart_none (wpAny_bind (wpAny_pure ?_)))))
 show wpAny _ _ (match Builtin.Slice.sliceAdjust none none (-1) (n:Int) with | (lo,hi)=>pure (lo,(-1:Int),Builtin.Slice.slicePlaces lo hi (-1))) _ _ s
 have e1:Builtin.Slice.sliceAdjust none none (-1) (n:Int)=((n:Int) - 1,-1):=rfl
 have e2:Builtin.Slice.slicePlaces ((n:Int) - 1) (-1) (-1)=n:=by
  unfold Builtin.Slice.slicePlaces
  have e1:¬((-1:Int)>0):=by omega
  simp only[e1,if_false]
  have e3:(- (-1:Int))=1:=by omega
  rw[e3,Int.ediv_one]
  split<;>omega
 rw[e1]
 show wpAny _ _ (pure ((n:Int) - 1,(-1:Int),Builtin.Slice.slicePlaces ((n:Int) - 1) (-1) (-1))) _ _ s
 rw[e2]
 exact wpAny_pure h
theorem iA{t sl:Addr}{items:Array Value}{u:Tok}{Q:Value→Shared→Prop}(ht:IsTup s.heap t items)(hs:s.heap.IsSliceOf sl .none .none (.int (-1) u))
 (h:Q (.ref s.heap.objs.size) {s with heap:=s.heap.push {cls:= .type "tuple",data:= .seq items.toList.reverse.toArray} })(hsz:items.size≤sizeLine):wpAny (model prog w) A (getItem (.ref t) (.ref sl)) Q E s:=by
 have hr:sizeOk (.seq items.toList.reverse.toArray):=by
  show items.toList.reverse.toArray.size≤sizeLine
  simpa using hsz
 obtain⟨os,qE,B8,vF⟩:=id hs
 have EE:s.TypeIs (.ref sl) "slice":=⟨os,qE,B8⟩
 unfold getItem
 try with_reducible refine wpAny_holding ?_
 first | refine wpAny_bind (wpAny_pure ?_) | skip
 refine wpAny_bind (wpAny_sequenceKey ht.typeIs (by decide) ?_)
 refine wpAny_bind (wpAny_callSpecial?_slot (name:=Str.ofString "__getitem__") ht.typeIs PyProof.Rows.slot_tuple_getitem
  (wpAny_call_entry PyProof.Rows.slot_tuple_getitem ht.typeIs entry_tuple_getitem ?_ (args_tuple_getitem _ _)))
 show wpAny _ _ (Builtin.Tuple.tupleItemsOf (.ref t)>>=_) _ _ s
 refine wpAny_bind (tupleItemsOf_ ht ?_)
 refine wpAny_bind (wpAny_typeOf EE ?_)
 rw[if_pos (by decide)]
 refine wpAny_bind (qe hs ?_)
 have qD:¬((((items.size:Int) - 1)==0&&(-1:Int)==1&&items.size==items.size)=true):=by
  intro q
  rw[Bool.and_eq_true,Bool.and_eq_true] at q
  exact absurd q.1.2 (by decide)
 show wpAny _ _ (if (((items.size:Int) - 1)==0&&(-1:Int)==1&&items.size==items.size)=true then _ else _) _ _ s
 rw[if_neg qD]
 have e:((List.range items.size).filterMap fun(m:Nat)=>items[(((items.size:Int) - 1)+(m:Int)*(-1)).toNat]?).toArray=items.toList.reverse.toArray:=by
  rw[←rp,←n_,List.filterMap_map]
  congr 1
  refine ix fun k hk=>?_
  have:=List.mem_range.mp hk
  have q:(((items.size:Int) - 1)+(k:Int)*(-1)).toNat=items.size - 1 - k:=by omega
  rw[q]
  rfl
 rw[e]
 first
  |exact wpAny_bind (m:=Builtin.Tuple.tupleExact _) (wpAny_newObj_type (wpAny_pure ⟨_,rfl,wpAny_pure h⟩) hr)
  |exact wpAny_bind (m:=Builtin.Tuple.tupleExact _) (wpAny_newObj_type (wpAny_bind (wpAny_pure (wpAny_pure ⟨_,rfl,wpAny_pure h⟩))) hr)
  |exact wpAny_bind (wpAny_bind (m:=Builtin.Tuple.tupleExact _) (wpAny_newObj_type (wpAny_pure (wpAny_pure ⟨_,rfl,wpAny_pure h⟩)) hr))
  |exact wpAny_bind (wpAny_bind (m:=Builtin.Tuple.tupleExact _) (wpAny_newObj_type (wpAny_pure ⟨_,rfl,wpAny_pure h⟩) hr))
end
section
variable{X:Cx}{Xw:Nat→Hp→Prop}{e DZ:Expr}{te ts:TE}{δ δs:DE}{pos p2:Pos}
def Io(X:Cx)(r:V→Hp→VK→Prop):Prop:=
 ∀(pins:List (Addr×Obj)) (s:Shared) (σ:St) (H:Hp) (x:V) (v:Value) (u:Tok) (sl:Addr) (Q:VK),Inv X pins σ H s→RelV x v→s.heap.IsSliceOf sl .none .none (.int (-1) u)→r x H Q→
  ∃T id,typeLookup (.type T) "__getitem__"=pure (some (.builtin id))∧s.TypeIs v T∧wpAny (model X.prog X.w) X.A (getItem v (.ref sl)) (EP X pins σ Q) X.xe s
theorem Dh{r:V→Hp→VK→Prop}(hr:Io X r)(he:PE X e te)(hs:PE X DZ ts):PE X (.Subscript e (.Slice none none (some DZ) p2) pos) (fun σ H Q=>te σ H fun x H1=>ts σ H1 fun y H2=>y= .int (-1)∧r x H2 Q):=by
 intro pins s σ H Q I h
 refine Subscript_ (bI (he pins s σ H _ I h) fun v s1 ⟨x,H1,I1,r1,q1⟩=>?_)
 refine wpAny_Slice ?_
 rw[evalPart_none]
 refine wpAny_pure (wpAny_pure ?_)
 rw[evalPart_some]
 refine bI (hs pins s1 σ H1 _ I1 q1) fun vs s3 ⟨y,H3,I3,ry,q3⟩=>?_
 obtain⟨rfl,q3⟩:=q3
 obtain⟨u,rfl⟩:=ry
 have I4:Inv X pins σ H3 {s3 with heap:=s3.heap.push {cls:= .type "slice",data:= .fields #[.none, .none, .int (-1) u]} }:=I3.kept (t':=s3.toks) fun b ob q=>Heap.get?_push_of_some _ q
 obtain⟨T,id,hT,ht,hg⟩:=hr pins {s3 with heap:=s3.heap.push {cls:= .type "slice",data:= .fields #[.none, .none, .int (-1) u]} } σ H3 x v u s3.heap.objs.size Q I4 r1 (Heap.IsSliceOf.new ..) q3
 show wpAny (model X.prog X.w) X.A (subscriptTail e (.Slice none none (some DZ) p2) v (.ref s3.heap.objs.size)) (EP X pins σ Q) X.xe {s3 with heap:=s3.heap.push {cls:= .type "slice",data:= .fields #[.none, .none, .int (-1) u]} }
 exact tail_any (ops:=[v, .ref s3.heap.objs.size]) ht hT hg (by with_unfolding_all rfl)
def HP(K:W.Frag):V→Hp→VK→Prop:=fun x H Q=>(∃z:Str,x= .str z∧z.length≤lim∧Q (.str (kx z)) H)∨∃a xs,x= .ref a∧SqT K H a xs∧∀p,H p=none→Q (.ref p) (upd H p (.tup xs.reverse))
theorem DD:Io X (HP X.K):=by
 intro pins s σ H x v u sl Q I rx hs h
 rcases h with⟨z,rfl,hl,q⟩ | ⟨a,xs,rfl,hx,q⟩
 ·obtain⟨t,rfl⟩:=rx
  refine⟨"str",_,PySem.F.slot_str_getitem.lookup,typeIs_str _ _ _,wpAny_getItem_str_slice (l:=none) (u:=none) (st:=some (-1,u)) hs rfl ?_⟩
  rw[x9]
  exact⟨by rw[lZ];have:=cW;omega,⟨.str _,H,I.tok _,⟨_,rfl⟩,q⟩⟩
 ·cases rx
  obtain⟨aA,r,ht,hz⟩:=I.tuple hx
  have hlen:=r.length
  refine⟨"tuple",_,PyProof.Rows.slot_tuple_getitem.lookup,ht.typeIs,iA ht hs ?_ (by rw[List.size_toArray];omega)⟩
  refine⟨.ref s.heap.objs.size,_,I.laid (t':=s.toks) (o:= .tup xs.reverse) (fun b ob q=>Heap.get?_push_of_some _ q) (Nat.le_refl _) ?_,rfl,q _ (I.hok.fresh (Nat.le_refl _))⟩
  exact⟨by rw[List.length_reverse];exact hz,_,r.reverse,⟨_,Heap.get?_push_size _ rfl,rfl,by simp⟩⟩
def FJ:D→M D
 | .str x=>M.ret (.str (kx x))
 | .tup ds=>M.ret (.tup ds.reverse)
 |_=>M.stuck
def BX(a st:DE):DE:=fun ρ=>a ρ>>=fun d=>st ρ>>=fun k=>match k with
 | .int i=>if i= -1 then FJ d else M.stuck
 |_=>M.stuck
theorem C9(he:PD X Xw e δ)(hs:PD X Xw DZ δs):PD X Xw (.Subscript e (.Slice none none (some DZ) p2) pos) (BX δ δs):=
 PE.weak (Dh DD he hs) fun σ H Q ⟨F,ρ,s,w⟩=>by
  refine⟨F,ρ,s,WP.mono (WP.bind w) fun v H1 ⟨F1,d,e1,q1,w1⟩=>?_⟩
  refine⟨F1,ρ,s.ext e1,WP.mono (WP.bind w1) fun y H2 ⟨F2,k,e2,q2,w2⟩=>?_⟩
  have q3:=Den.mono e2.ff q1
  cases k with
  |int i=>
   have w2:WP X.K Xw F2 H2 (if i= -1 then FJ d else M.stuck) Q:=w2
   split at w2
   ·rename_i hi
    subst hi
    refine⟨q2,?_⟩
    cases d with
    |str x=>exact .inl ⟨x,q3.1,q3.2,WP.now w2 e2.fh ⟨rfl,by rw[lZ];exact q3.2⟩⟩
    |tup ds=>
     obtain⟨a,vs,rfl,h2,h3,h4⟩:=q3
     exact .inr ⟨a,vs,rfl,SqT.of (e2.fh _ _ h2),fun p hp=>WP.fin w2 (Ext.lay e2.fh hp) ⟨p,_,rfl,aD,DenL.mono (Ext.lay e2.fh hp).ff h3.reverse,by rw[List.length_reverse];exact h4⟩⟩
    |_=>exact w2.elim
   ·exact w2.elim
  |_=>exact w2.elim
variable{o:Expr}{δo:DE}{δl:DA}{apos a5:Pos}
def xj(x y:Str):Nat:=(Builtin.Str.occurrences x y 0 x.length (x.length+1)).length
def ql:D→List D→M D
 | .str x,[.str y]=>M.ret (.int (xj x y))
 |_,_=>M.stuck
theorem Ac:FY X "str.count" (fun x vs H Q=>∃y z:Str,x= .str y∧vs=[.str z]∧Q (.int (xj y z)) H):=by
 intro pins s σ H x vs v us Q I rx rv h
 obtain⟨y,z,rfl,rfl,q⟩:=h
 obtain⟨t,rfl⟩:=rx
 obtain⟨u,rfl,r1⟩:=rv.one
 obtain⟨t2,rfl⟩:=r1
 exact call_gives F.slot_str_count (typeIs_str _ _ _) F.entry_str_count (F.args_str_count_2 _ _) (gives_str_count y z t t2) ⟨.int (xj y z),H,I.tok _,⟨_,rfl⟩,q⟩
theorem Ar(ho:PD X Xw o δo)(ha:ko X Xw [e] δl)(fN:attributeBase o "count" X.env (eval o X.env)=eval o X.env:=by rfl)
 (lg:((backTo a5 (starEach [e] X.env)).all (fun x=>!x.1)&&(backToKw a5 (keywordEach [] X.env)).all (fun x=>x.1.isSome)&&decide ([e].length+([]:List Keyword).length+(if ([]:List Keyword).isEmpty then 0 else 1)<30))=true:=by rfl)
 (fO:(apos.endLine==a5.line)=true:=by rfl)(qF:starEach [e] X.env=[(false,eval e X.env)]:=by rfl):PD X Xw (.Call (.Attribute o "count" apos) [e] [] a5) (dM lu ql δo δl):=
 BG PySem.F.plainAttrs_str PySem.F.slot_str_count PySem.F.type_str_count Ac xQ (fun Xw F H x vs d ds Q s hx hv w=>by
  unfold ql at w
  split at w
  ·rename_i y z
   obtain⟨v,rfl,h1⟩:=hv.one
   exact⟨y,z,hx.1,by rw[h1.1],WP.now w s rfl⟩
  ·exact w.elim) ho ha fN lg fO qF rfl
end
namespace RV
theorem mro_rev:mroOf (.type "reversed")=pure [.type "reversed", .type "object"]:=by rw[mroOf_type];kernel_rfl
theorem new_rev:typeLookup (.type "reversed") "__new__"=pure (some (.builtin "reversed.__new__")):=by rw[typeLookup_type,builtinLookup_eq_fast];kernel_rfl
theorem owner_rev:Manifest.owners.lookup (String.ofList ['d', 'e', 's', 'r', 'e', 'v', 'e', 'r'].reverse)=some Manifest.sig_reversed:=by kernel_rfl
theorem slot_rev_next:Slot "reversed" "__next__" "reversed.__next__":=
 .of (owner:="reversed") (n:="__next__") (by rw[typeLookup_type,builtinLookup_eq_fast];kernel_rfl) (by decide+kernel) (by decide+kernel) (by decide+kernel)
  (by first | exact .inl (by decide+kernel) | exact .inr (by decide+kernel)) (by rw[isSubtype_type];kernel_rfl)
theorem slot_rev_iter:Slot "reversed" "__iter__" "reversed.__iter__":=
 .of (owner:="reversed") (n:="__iter__") (by rw[typeLookup_type,builtinLookup_eq_fast];kernel_rfl) (by decide+kernel) (by decide+kernel) (by decide+kernel)
  (by first | exact .inl (by decide+kernel) | exact .inr (by decide+kernel)) (by rw[isSubtype_type];kernel_rfl)
theorem slot_rev_init:Slot "reversed" "__init__" "object.__init__":=
 .of (owner:="object") (n:="__init__") (by rw[typeLookup_type,builtinLookup_eq_fast];kernel_rfl) (by decide+kernel) (by decide+kernel) (by decide+kernel)
  (by first | exact .inl (by decide+kernel) | exact .inr (by decide+kernel)) (by rw[isSubtype_type];kernel_rfl)
theorem entry_rev_next:entryFor table "reversed.__next__"=some Builtin.«reversed.__next__» :=entryFor_of_tree (by kernel_rfl)
theorem entry_rev_new:entryFor table "reversed.__new__"=some Builtin.«reversed.__new__» :=entryFor_of_tree (by kernel_rfl)
theorem entry_rev_iter:entryFor table "reversed.__iter__"=some Builtin.«dict_keyiterator.__iter__» :=
 entryFor_alias (id':="dict_keyiterator.__iter__") (by kernel_rfl) (by first | rfl | decide+kernel | (unfold String.splitOn;simp+decide [String.splitOnAux])) (by decide+kernel) (by kernel_rfl)
theorem args_rev_next(a:Value):argsOk "reversed.__next__" ⟨[a],[]⟩:=by
 unfold argsOk;rw[signature?_of (id:="reversed.__next__") (n:=['_', '_', 't', 'x', 'e', 'n', '_', '_']) (o:=['d', 'e', 's', 'r', 'e', 'v', 'e', 'r']) (by kernel_rfl) owner_rev];kernel_rfl
theorem args_rev_iter(a:Value):argsOk "reversed.__iter__" ⟨[a],[]⟩:=by
 unfold argsOk;rw[signature?_of (id:="reversed.__iter__") (n:=['_', '_', 'r', 'e', 't', 'i', '_', '_']) (o:=['d', 'e', 's', 'r', 'e', 'v', 'e', 'r']) (by kernel_rfl) owner_rev];kernel_rfl
theorem called_rev:TypeCalled "reversed" "reversed.__new__" "object.__init__":=
 ⟨by decide+kernel,by decide+kernel,⟨_,_,mro_rev⟩,madeBy_type mro_rev new_rev (by decide+kernel),by decide+kernel,by rw[isSubtype_type];kernel_rfl,slot_rev_init⟩
theorem typeCall_rev(a:Value):checkTypeCall "reversed" ⟨[a],[]⟩=pure ():=by kernel_rfl
theorem newCall_rev(a:Value):checkBuiltinCall "reversed.__new__" ⟨[.type "reversed",a],[]⟩=pure ():=by kernel_rfl
theorem no_rev_tuple:typeLookup (.type "tuple") "__reversed__"=pure none:=by rw[typeLookup_type,builtinLookup_eq_fast];kernel_rfl
theorem tuple_not_dict:isSubtype (.type "tuple") (.type "dict")=pure false:=by rw[isSubtype_type];kernel_rfl
theorem newClass_rev(a:Value):Builtin.SmallTypes.newClass "reversed" ⟨[.type "reversed",a],[]⟩=pure (.type "reversed",[a]):=by
 unfold Builtin.SmallTypes.newClass
 simp only[isType,called_rev.sub,pure_bind,Bool.not_true,Bool.false_eq_true,if_false]
end RV
def p6(t:Addr)(i:Int):Obj:={cls:= .type "reversed",data:= .fields #[.ref t,rawInt i]}
def IsTupRev(h:Heap)(it t:Addr)(i:Int):Prop:=∃o,h.get? it=some o∧o.cls= .type "reversed"∧o.data= .fields #[.ref t,rawInt i]
theorem wA{i n:Nat}(h:i<n):seqIndex? (i:Int) n=some i:=by
 have h1:¬((i:Int)<0):=by omega
 have h2:(decide (0≤(i:Int))&&decide ((i:Int)<(n:Int)))=true:=by simp;omega
 unfold seqIndex?
 simp only[h1,if_false]
 rw[if_pos h2]
 simp
section
variable{prog:Program}{w:World}{A:Around}{E:Value→Shared→Prop}{s:Shared}
theorem vV(t:Addr)(items:Array Value)(hsz:items.size<2 ^ 62):
 Meets (Builtin.«reversed.__new__» ⟨[.type "reversed", .ref t],[]⟩) (fun _ R s=>IsTup s.heap t items∧∀tk,R (.ok (.ret (.ref s.heap.objs.size))) {s with heap:=s.heap.push (p6 t ((items.size:Int) - 1)),toks:=tk}):=
 .of_wp fun prog w A R s h=>by
  obtain⟨ht,h⟩:=h
  unfold Builtin.«reversed.__new__»
  refine wpAny_bind (wpAny_of_eq (RV.newClass_rev _) ?_)
  try dsimp only
  refine wpAny_bind (wpAny_of_eq (a:=()) (by first | rfl | kernel_rfl) ?_)
  refine wpAny_bind (wpAny_of_eq (a:=()) (by first | rfl | kernel_rfl) ?_)
  try dsimp only
  refine wpAny_bind (wpAny_specialOf ht.typeIs RV.no_rev_tuple ?_)
  try dsimp only
  refine wpAny_bind ?_
  refine wpAny_bind (m:=isInstance (.ref t) (.type "dict")) (wpAny_isInstance (T:="tuple") (b:=false) ht.typeIs RV.tuple_not_dict ?_)
  refine wpAny_bind (m:=specialOf (.ref t) "__getitem__") (wpAny_specialOf ht.typeIs slot_tuple_getitem.lookup ?_)
  refine wpAny_pure ?_
  refine wpAny_bind (m:=call (.builtin "len") [.ref t]) (len_tuple ht (by omega) ?_)
  refine wpAny_bind (wpAny_of_eq (a:=some (items.size:Int)) (by first | rfl | kernel_rfl) ?_)
  refine wpAny_bind (m:=newObj (.type "reversed") (.fields #[.ref t,rawInt ((items.size:Int) - 1)])) (wpAny_newObj_type ?_ (by size_fits))
  exact wpAny_pure ⟨_,rfl,h _⟩
theorem gH{t:Addr}{items:Array Value}{Q:Value→Shared→Prop}(ht:IsTup s.heap t items)(hsz:items.size<2 ^ 62)
 (h:∀tk,Q (.ref s.heap.objs.size) {s with heap:=s.heap.push (p6 t ((items.size:Int) - 1)),toks:=tk}):wpAny (model prog w) A (call (.type "reversed") [.ref t]) Q E s:=
 callType_new RV.called_rev (by decide) (RV.typeCall_rev _) (RV.newCall_rev _) (fun obj=>F.args_object_init_2 obj _) RV.entry_rev_new (vV t items hsz) ⟨ht,fun tk=>⟨⟨_,Heap.get?_push_size _ rfl,rfl⟩,h tk⟩⟩
theorem IsTupRev.typeIs{it t:Addr}{i:Int}(x:IsTupRev s.heap it t i):s.TypeIs (.ref it) "reversed":=let ⟨o,ho,hc,_⟩:=x;⟨o,ho,hc⟩
theorem IsTupRev.at{h h':Heap}{it t:Addr}{i:Int}(x:IsTupRev h it t i)(e:∀o,h.get? it=some o→h'.get? it=some o):IsTupRev h' it t i:=let ⟨o,ho,r⟩:=x;⟨o,e _ ho,r⟩
theorem mL{it t:Addr}{i:Nat}{items:Array Value}{x:Value}{Q:Option Value→Shared→Prop}(hit:IsTupRev s.heap it t (i:Int))(ht:IsTup s.heap t items)(hx:items[i]? =some x)(hb:items.size<2 ^ 62)
 (hQ:∀h' tk,IsTupRev h' it t ((i:Int) - 1)→Heap.SameBut it s.heap h'→Q (some x) {s with heap:=h',toks:=tk}):wpAny (model prog w) A (pyNext (.ref it)) Q E s:=by
 obtain⟨o,ho,hc,hd⟩:=id hit
 have hi:i<items.size:=(Array.getElem?_eq_some_iff.mp hx).1
 unfold pyNext
 refine wpAny_bind (wpAny_attempt (wpAny_callSpecial?_slot (name:=Str.ofString "__next__") hit.typeIs RV.slot_rev_next
  (wpAny_call_entry RV.slot_rev_next hit.typeIs RV.entry_rev_next ?_ (RV.args_rev_next _))))
 unfold Builtin.«reversed.__next__»
 refine wpAny_bind (wpAny_of_eq (a:=(Value.ref it,[])) rfl ?_)
 try dsimp only
 refine wpAny_bind (wpAny_field ho hd (x:= .ref t) rfl ?_)
 refine wpAny_bind (wpAny_field ho hd (x:=rawInt (i:Int)) rfl ?_)
 show wpAny _ _ (if (i:Int)<0 then _ else _) _ _ s
 rw[if_neg (by omega)]
 refine wpAny_bind (m:=specialOf (.ref t) "__getitem__") (wpAny_specialOf ht.typeIs slot_tuple_getitem.lookup ?_)
 refine wpAny_bind (wpAny_mkInt ?_)
 refine wpAny_bind (wpAny_attempt (getItem_tuple (s:={s with toks:=s.toks+1}) ht (by omega) (by omega) (j:=i) (wA hi) hx ?_))
 try dsimp only
 refine wpAny_bind (wpAny_field (s:={s with toks:=s.toks+1}) ho hd (x:=rawInt (i:Int)) rfl ?_)
 refine wpAny_bind (wpAny_setField (s:={s with toks:=s.toks+1}) ho hd (by simp) ?_)
 first
 |refine wpAny_pure ⟨x,rfl,wpAny_pure (hQ _ _ ?_ (Heap.SameBut.update ..))⟩
 |refine wpAny_bind (wpAny_pure (wpAny_pure ⟨x,rfl,wpAny_pure (hQ _ _ ?_ (Heap.SameBut.update ..))⟩))
 exact⟨_,Heap.get?_update_self _ ho (Obj.isFreed_of_fields (Obj.data_mapFields hd _)),(Obj.cls_mapFields ..).trans hc,by
  rw[Obj.data_mapFields hd];simp⟩
theorem o8{it t:Addr}{k:Int}{Q:Option Value→Shared→Prop}(hh:A.handled=none)(hit:IsTupRev s.heap it t k)(hk:k<0)
 (hQ:∀h',Heap.ExtBut it s.heap h'→Q none {s with heap:=h'}):wpAny (model prog w) A (pyNext (.ref it)) Q E s:=by
 obtain⟨o,ho,hc,hd⟩:=id hit
 unfold pyNext
 refine wpAny_bind (wpAny_attempt (wpAny_callSpecial?_slot (name:=Str.ofString "__next__") hit.typeIs RV.slot_rev_next
  (wpAny_call_entry RV.slot_rev_next hit.typeIs RV.entry_rev_next ?_ (RV.args_rev_next _))))
 unfold Builtin.«reversed.__next__»
 refine wpAny_bind (wpAny_of_eq (a:=(Value.ref it,[])) rfl ?_)
 try dsimp only
 refine wpAny_bind (wpAny_field ho hd (x:= .ref t) rfl ?_)
 refine wpAny_bind (wpAny_field ho hd (x:=rawInt k) rfl ?_)
 show wpAny _ _ (if k<0 then _ else _) _ _ s
 rw[if_pos hk]
 refine wpAny_bind (wpAny_rule ?_)
 refine wpAny_bind ?_
 refine wpAny_bind (m:=setField (.ref it) 1 (rawInt (-1))) (wpAny_setField ho hd (by simp) ?_)
 refine wpAny_setField (Heap.get?_update_self _ ho (Obj.isFreed_of_fields (Obj.data_mapFields hd _))) (Obj.data_mapFields hd _) (by simp) ?_
 dsimp only
 have hx:Heap.ExtBut it s.heap ((s.heap.update it (Obj.mapFields fun x=>x.setIfInBounds 1 (rawInt (-1)))).update it (Obj.mapFields fun x=>x.setIfInBounds 0 Value.none)):=fun b ob hb e=>
  ((Heap.SameBut.update ..).2 b hb).trans (((Heap.SameBut.update ..).2 b hb).trans e)
 revert hx
 generalize (s.heap.update it (Obj.mapFields fun x=>x.setIfInBounds 1 (rawInt (-1)))).update it (Obj.mapFields fun x=>x.setIfInBounds 0 Value.none)=h2
 intro hx
 refine wpAny_bind ?_
 show wpAny _ _ (newExc (.type "StopIteration") []>>=_) _ _ _
 refine wpAny_bind ?_
 simp only[newExc,newTuple]
 refine wpAny_bind (wpAny_newObj_type ?_ (by size_fits))
 refine wpAny_bind (m:=firstArgMember _ _) (wpAny_of_eq (a:=Value.none) (by first | rfl | (simp only[firstArgMember];rfl)) ?_)
 refine wpAny_newObj_type ?_ (by size_fits)
 simp only[raiseNew]
 refine wpAny_bind (wpAny_handled ?_)
 first | rw[show A.in1.handled=none from hh] | rw[hh]
 refine wpAny_bind (wpAny_pure (wpAny_throw ?_))
 refine wpAny_bind (wpAny_isInstance (T:="StopIteration") (b:=true) ⟨_,Heap.get?_push_size _ rfl,rfl⟩ isSubtype_stop ?_)
 exact wpAny_pure (hQ _ ((hx.push _).push _))
theorem qH{it t:Addr}{i:Int}{Q:Value→Shared→Prop}(hit:IsTupRev s.heap it t i)(h:Q (.ref it) s):wpAny (model prog w) A (pyIter (.ref it)) Q E s:=by
 refine wpAny_pyIter_slot hit.typeIs RV.slot_rev_iter (wpAny_call_entry RV.slot_rev_iter hit.typeIs RV.entry_rev_iter ?_ (RV.args_rev_iter _))
 show wpAny _ _ (ret (.ref it)) _ _ s
 exact wpAny_pure ⟨_,rfl,"reversed",_,hit.typeIs,RV.slot_rev_next.lookup,h⟩
end
def Ik(K:W.Frag)(a:Addr)(n:Nat):It:=
 ⟨fun i H=>∃xs x,SqT K H a xs∧xs.length=n∧xs.reverse[i]? =some x,fun i H x H'=>H'=H∧∀xs,SqT K H a xs→xs.reverse[i]? =some x,fun i H=>n≤i⟩
theorem zl{P:Program}{w:World}{K:W.Frag}{tg:Expr}(a it:Addr)(n:Nat):Turn P w K tg (Ik K a n) [it] it (fun i h=>IsTupRev h it a ((n:Int) - 1 - (i:Int))) where
 mem:=by simp
 obj:=fun i h st b hb=>by
  have e:b=it:=by simpa using hb
  subst e
  obtain⟨o,e,c,d⟩:=st
  exact⟨o,e,fun v z=>by rw[d] at z;cases z⟩
 keep:=fun i h h' st k=>st.at fun o e=>k it (by simp) o e
 item:=by
  intro X hP hw hK hc i pins s σ H E I hf st hg
  subst hP hw hK
  obtain⟨xs,x,hq,hn,hx⟩:=hg
  obtain⟨aA,rv,p,hz⟩:=I.tuple hq
  have hi:i<n:=by
   have:=(List.getElem?_eq_some_iff.mp hx).1
   rw[List.length_reverse] at this
   omega
  rw[List.getElem?_reverse (by omega)] at hx
  obtain⟨u,hu,ru⟩:=rv.get hx
  obtain⟨f0,f1,f2,f3,f4,f5⟩:=hf it (by simp)
  have hl:=rv.length
  have hs:sizeLine=16777216:=sizeLine_eq
  have e:(n:Int) - 1 - (i:Int)=((xs.length - 1 - i:Nat):Int):=by omega
  have st:=st
  rw[e] at st
  refine mL st p (x:=u) (by simpa using hu) (by rw[List.size_toArray];omega) fun h' tk jB sb=>?_
  have I1:Inv X pins σ H {s with heap:=h',toks:=tk}:=I.turned (fun b o hb e=>(sb.2 b hb).trans e) f0 f1 f3 f4 f5
  obtain⟨o,e1,c,d⟩:=id jB
  refine⟨u,rfl,k_ (s:={s with heap:=h',toks:=tk}) e1 c d (by decide) ⟨x,H,I1,ru,⟨rfl,fun ys hy=>?_⟩,?_,fun b hb=>(hf b hb).1⟩⟩
  ·rw[I.tuple_inj hy hq,List.getElem?_reverse (by omega)]
   exact hx
  ·have e2:((xs.length - 1 - i:Nat):Int) - 1=(n:Int) - 1 - ((i+1:Nat):Int):=by omega
   rw[e2] at jB
   exact jB
 done:=by
  intro X hP hw hK hc i pins s σ H E I hf st hg
  subst hP hw hK
  obtain⟨f0,f1,f2,f3,f4,f5⟩:=hf it (by simp)
  have hg:n≤i:=hg
  exact o8 (I.ok.hd hc) st (by omega) fun h' eb=>⟨rfl,I.turned (t':=s.toks) (fun b o hb e=>eb b o hb e) f0 f1 f3 f4 f5⟩
 self:=fun _ _ _ _ _ st h=>qH st h
theorem z4{K:W.Frag}{F:Hp}{a:Addr}{vs:List V}{ds:List D}(h:SqT K F a vs)(hd:DenL K F ds vs):ItD K F (Ik K a vs.length) ds.reverse:=fun F' H' i s1 s2=>by
 have hs:=Same.tup s2 (Same.tup s1 h)
 refine⟨fun d e=>?_,fun hl=>by rw[List.length_reverse,hd.len] at hl;exact hl⟩
 obtain⟨v,e1,q⟩:=hd.reverse.get e
 refine⟨⟨vs,v,hs,rfl,e1⟩,fun x H'' y=>?_⟩
 obtain⟨e2,y⟩:=y
 subst e2
 have:=y vs hs
 rw[e1] at this
 cases this
 exact⟨F',Ext.refl s2,Den.mono s1 q⟩
section
variable{X:Cx}{Xw:Nat→Hp→Prop}{tg e:Expr}{es:List Expr}{δ δi:DE}{δs:DA}{pos p:Pos}
def yW:List D→M (List D)
 |[.tup ds]=>M.ret ds.reverse
 |_=>M.stuck
theorem Av(hg:Gl X "reversed")(hm:X.mg "reversed"=none)(ha:ko X Xw [e] δs)(hs:starEach [e] X.env=[(false,eval e X.env)]:=by rfl):t_ X Xw tg (.Call (.Name "reversed" p) [e] [] pos) (fun ρ=>δs ρ>>=yW):=by
 intro pins s σ H R I ⟨F,ρ,S,w⟩
 refine Call_ (fR I hg hm boot_reversed (PyProof.Rows.callWith_type1 (bI (ha pos pins s σ H (fun vs H1=>∃F1 ds,Ext F H F1 H1∧DenL X.K F1 ds vs∧WPI X.K Xw F1 H1 (yW ds) R) I ⟨F,ρ,S,WPI.bindL w⟩) fun us s1 ⟨vs,H1,I1,r1,F1,ds,e1,q1,w1⟩=>?_) hs rfl))
 unfold yW at w1
 split at w1
 ·rename_i ds
  obtain⟨v,rfl,h1⟩:=q1.one
  obtain⟨a,xs,rfl,h2,h3,h4⟩:=h1
  obtain⟨u,rfl,r2⟩:=r1.one
  cases (show u=_ from r2)
  obtain⟨aA,rv,pt,hz⟩:=I1.tuple (SqT.of (K:=X.K) (e1.fh _ _ h2))
  have hl:=rv.length
  have wO:sizeLine=16777216:=sizeLine_eq
  refine gH pt (by rw[List.size_toArray];omega) fun tk=>?_
  have en:((aA.toArray.size:Nat):Int) - 1=(xs.length:Int) - 1 - ((0:Nat):Int):=by rw[List.size_toArray];omega
  have Jp:IsTupRev (s1.heap.push (p6 a (((aA.toArray.size:Nat):Int) - 1))) s1.heap.objs.size a ((xs.length:Int) - 1 - ((0:Nat):Int)):=⟨_,Heap.get?_push_size _ rfl,rfl,by rw[←en];rfl⟩
  refine qH (s:={s1 with heap:=s1.heap.push (p6 a (((aA.toArray.size:Nat):Int) - 1)),toks:=tk}) Jp ?_
  refine⟨s1.heap.objs.size,[s1.heap.objs.size],_,_,H1,rfl,I1.kept (t':=tk) fun b o e=>Heap.get?_push_of_some _ e,zl a _ xs.length,Jp,fun b hb=>?_,w1 _ _ _ (Ext.refl e1.fh) (z4 (SqT.of h2) h3)⟩
  have e:b=s1.heap.objs.size:=by simpa using hb
  subst e
  exact I1.fpOk (Nat.le_refl _) (I1.hok.fresh (Nat.le_refl _))
 ·exact w1.elim
end
end L3
namespace L3
open PySem PySem.Spec L2 SeqAt HT
open PyProof.Rows hiding St
def sR:D→Option Key
 | .int i=>some (.inl i)
 | .str x=>some (.inr x)
 |_=>none
def oY:List D→Option (List Key)
 |[]=>some []
 |d::ds=>match sR d,oY ds with
  |some k,some ks=>some (k::ks)
  |_,_=>none
def dQ:D→Option (List Key)
 | .tup ds=>oY ds
 |_=>none
theorem lA{K:W.Frag}{F:Hp}{d:D}{v:V}{k:Key}(e:sR d=some k)(h:Den K F d v):v=kV k:=by
 cases d<;>first | cases e | skip
 ·exact h
 ·exact h.1
theorem fQ{K:W.Frag}{F:Hp}:∀{ds:List D}{vs:List V}{ks:List Key},oY ds=some ks→DenL K F ds vs→vs=ks.map kV
 |[],_,_,e,h=>by cases e;exact h
 |d::ds,_,_,e,⟨v,r,h1,h2,h3⟩=>by
  unfold oY at e
  split at e
  ·rename_i k ks e1 e2
   cases e
   subst h1
   rw[List.map_cons,lA e1 h2,fQ e2 h3]
  ·cases e
section
variable{κ:Type}[DecidableEq κ]
def fB:List κ→List D→κ→Option D
 |k'::ks,d::ds,k=>if k'=k then some d else fB ks ds k
 |_,_,_=>none
def mS:List κ→List D→κ→D→List D
 |k'::ks,d'::ds,k,d=>(if k'=k then d else d')::mS ks ds k d
 |_,_,_,_=>[]
theorem i1{K:W.Frag}{F:Hp}:∀{ks:List κ}{ds:List D}{vs:List V}(k:κ),DenL K F ds vs→ks.length=ds.length→
 (match fB ks ds k with | some d=>∃v,i2 (ks.zip vs) k=some v∧Den K F d v | none=>i2 (ks.zip vs) k=none)
 |[],[],_,_,_,_=>rfl
 |k'::ks,d::ds,_,k,⟨v,r,h1,h2,h3⟩,hl=>by
  subst h1
  unfold fB
  rw[List.zip_cons_cons]
  by_cases e:k'=k
  ·rw[if_pos e,i4 (p:=(k',v)) e]
   exact⟨v,rfl,h2⟩
  ·rw[if_neg e,i3 (p:=(k',v)) e]
   exact i1 k h3 (by simpa using hl)
 |[],_::_,_,_,_,hl=>by simp at hl
 |_::_,[],_,_,_,hl=>by simp at hl
theorem gq{K:W.Frag}{F:Hp}{ks:List κ}{ds:List D}{vs:List V}(k:κ)(h:DenL K F ds vs)(hl:ks.length=ds.length):(i2 (ks.zip vs) k).isSome=(fB ks ds k).isSome:=by
 have:=i1 k h hl
 split at this
 ·rename_i d e
  obtain⟨v,e1,_⟩:=this
  rw[e1,e];rfl
 ·rename_i e
  rw[this,e]
  rfl
theorem rD{K:W.Frag}{F:Hp}{d:D}{v:V}(hd:Den K F d v):∀{ks:List κ}{ds:List D}{vs:List V}(k:κ),DenL K F ds vs→ks.length=ds.length→
 ∃ws,(ks.zip vs).map (fun kv=>if kv.1=k then(kv.1,v) else kv)=ks.zip ws∧DenL K F (mS ks ds k d) ws
 |[],[],_,_,h,_=>⟨[],rfl,rfl⟩
 |k'::ks,d'::ds,_,k,⟨v',r,h1,h2,h3⟩,hl=>by
  subst h1
  obtain⟨ws,e1,e2⟩:=rD hd k h3 (by simpa using hl)
  by_cases e:k'=k
  ·refine⟨v::ws,?_,?_⟩
   ·rw[List.zip_cons_cons,List.map_cons,e1,if_pos e];rfl
   ·unfold mS;rw[if_pos e];exact .cons hd e2
  ·refine⟨v'::ws,?_,?_⟩
   ·rw[List.zip_cons_cons,List.map_cons,e1,if_neg e];rfl
   ·unfold mS;rw[if_neg e];exact .cons h2 e2
 |[],_::_,_,_,_,hl=>by simp at hl
 |_::_,[],_,_,_,hl=>by simp at hl
theorem lY:∀(ks:List κ) (ds:List D) (k:κ) (d:D),ks.length=ds.length→(mS ks ds k d).length=ds.length
 |[],[],_,_,_=>rfl
 |_::ks,_::ds,k,d,h=>by unfold mS;rw[List.length_cons,List.length_cons,lY ks ds k d (by simpa using h)]
 |[],_::_,_,_,h=>by simp at h
 |_::_,[],_,_,h=>by simp at h
def f9(ks:List κ)(ds:List D)(k:κ):List κ:=if (fB ks ds k).isSome then ks else ks++[k]
def eF(ks:List κ)(ds:List D)(k:κ)(d:D):List D:=if (fB ks ds k).isSome then mS ks ds k d else ds++[d]
theorem u0{K:W.Frag}{F:Hp}{d:D}{v:V}(hd:Den K F d v){ks:List κ}{ds:List D}{vs:List V}(k:κ)(h:DenL K F ds vs)(hl:ks.length=ds.length):
 ∃ws,putK (ks.zip vs) k v=(f9 ks ds k).zip ws∧DenL K F (eF ks ds k d) ws∧(f9 ks ds k).length=(eF ks ds k d).length:=by
 have hs:=gq (K:=K) (F:=F) k h hl
 unfold putK f9 eF
 have ha:((ks.zip vs).any fun kv=>decide (kv.1=k))=(i2 (ks.zip vs) k).isSome:=ml ..
 rw[ha,hs]
 cases e:(fB ks ds k).isSome with
 |true=>
  rw[if_pos rfl,if_pos rfl,if_pos rfl]
  obtain⟨ws,e1,e2⟩:=rD hd k h hl
  exact⟨ws,e1,e2,by rw[lY ks ds k d hl];exact hl⟩
 |false=>
  rw[if_neg Bool.false_ne_true,if_neg Bool.false_ne_true,if_neg Bool.false_ne_true]
  refine⟨vs++[v],?_,h.append (.cons hd .nil),by simp[hl]⟩
  rw[List.zip_append (by rw[hl];exact h.len)]
  rfl
end
theorem ve{κ:Type}{K:W.Frag}{F:Hp}{ks:List κ}{ds:List D}{vs:List V}(h:DenL K F ds vs)(hl:ks.length=ds.length):(ks.zip vs).length=ds.length:=by
 rw[List.length_zip,hl,←h.len];omega
def mf(ρ:aY)(i:Nat):Option D:=match ρ[i]? with
 |some (some (.fz d))=>some d
 |some (some (.ow c))=>some c.d
 |_=>none
theorem zb{K:W.Frag}{F H:Hp}{σ:St}{ρ:aY}{i:Nat}{ks:List (List Key)}{ds:List D}(s:StE K F H σ ρ)(e:mf ρ i=some (.dct ks ds)):
 ∃a vs,σ[i]? =some (some (.ref a))∧Rd H a (.dT (ks.zip vs))∧DenL K F ds vs∧ks.length=ds.length∧ds.length≤lim:=by
 unfold mf at e
 split at e
 ·rename_i d e1
  cases e
  obtain⟨v,h1,a,ob,vs,rfl,h2,h3,h4,h5⟩:=s.den i _ e1
  exact⟨a,vs,h1, .inr ⟨ob,s.fh _ _ h2⟩,h3,h4,h5⟩
 ·rename_i c e1
  cases c<;>cases e
  obtain⟨v,h1,a,o,rfl,h2,_,vs,rfl,h3,h4,h5⟩:=s.den i _ e1
  exact⟨a,vs,h1, .inl h2,h3,h4,h5⟩
 ·cases e
theorem za{K:W.Frag}{F H:Hp}{σ:St}{ρ:aY}{i:Nat}{ks:List Key}{ds:List D}(s:StE K F H σ ρ)(e:mf ρ i=some (.dci ks ds)):
 ∃a vs,σ[i]? =some (some (.ref a))∧Rd H a (.dK (ks.zip vs))∧DenL K F ds vs∧ks.length=ds.length∧ds.length≤lim:=by
 unfold mf at e
 split at e
 ·rename_i d e1
  cases e
  obtain⟨v,h1,a,ob,vs,rfl,h2,h3,h4,h5⟩:=s.den i _ e1
  exact⟨a,vs,h1, .inr ⟨ob,s.fh _ _ h2⟩,h3,h4,h5⟩
 ·rename_i c e1
  cases c<;>cases e
  obtain⟨v,h1,a,o,rfl,h2,_,vs,rfl,h3,h4,h5⟩:=s.den i _ e1
  exact⟨a,vs,h1, .inl h2,h3,h4,h5⟩
 ·cases e
def Ba:D→D→Option (Option D)
 | .dct ks ds,k=>(dQ k).map (fB ks ds)
 | .dci ks ds,k=>(sR k).map (fB ks ds)
 |_,_=>none
theorem ue{K:W.Frag}{F H:Hp}{σ:St}{ρ:aY}{i:Nat}{d k:D}{y:V}{o:Option D}(s:StE K F H σ ρ)(hi:mf ρ i=some d)(hk:Den K F k y)(e:Ba d k=some o):
 ∃a ov,σ[i]? =some (some (.ref a))∧vf H a y ov∧ov.isSome=o.isSome∧∀d',o=some d'→∃v,ov=some v∧Den K F d' v:=by
 unfold Ba at e
 split at e
 ·rename_i ks ds
  cases q:dQ k with
  |none=>rw[q] at e;cases e
  |some kk=>
   rw[q] at e
   cases e
   obtain⟨a,vs,h1,h2,h3,h4,h5⟩:=zb s hi
   unfold dQ at q
   split at q
   ·rename_i es
    obtain⟨b,ws,rfl,k2,k3,_⟩:=hk
    have e1:=fQ q k3
    subst e1
    refine⟨a,_,h1, .inr ⟨_,kk,b,h2,rfl,s.fh _ _ k2,rfl⟩,gq kk h3 h4,fun d' qC=>?_⟩
    have:=i1 (K:=K) (F:=F) kk h3 h4
    rw[qC] at this
    exact this
   ·cases q
 ·rename_i ks ds
  cases q:sR k with
  |none=>rw[q] at e;cases e
  |some kk=>
   rw[q] at e
   cases e
   obtain⟨a,vs,h1,h2,h3,h4,h5⟩:=za s hi
   have e1:=lA q hk
   subst e1
   refine⟨a,_,h1, .inl ⟨_,kk,h2,rfl,rfl⟩,gq kk h3 h4,fun d' qC=>?_⟩
   have:=i1 (K:=K) (F:=F) kk h3 h4
   rw[qC] at this
   exact this
 ·cases e
section
variable{X:Cx}{Xw:Nat→Hp→Prop}{a b:Expr}{δa δb:DE}{pos:Pos}
end
section
variable{X:Cx}{Xw:Nat→Hp→Prop}{a e:Expr}{δ δk δv:DE}{pos p pos' rq apos a5:Pos}{x:Str}{i:Nat}
def Eo(neg:Bool)(i:Nat)(δ:DE):DE:=fun ρ=>δ ρ>>=fun k=>match mf ρ i with
 |some d=>match Ba d k with
  |some o=>M.ret (.bl (if neg then !o.isSome else o.isSome))
  |none=>M.stuck
 |none=>M.stuck
theorem Cu{neg:Bool}{σ:St}{H:Hp}{Q:VK}(h:tD X.K Xw (Eo neg i δ) σ H Q):(fun σ H Q=>tD X.K Xw δ σ H fun y H1=>mX i σ H1 fun x H2=>∃a o,x= .ref a∧vf H2 a y o∧Q (.bl (if neg then !o.isSome else o.isSome)) H2) σ H Q:=by
 obtain⟨F,ρ,s,w⟩:=h
 refine⟨F,ρ,s,WP.mono (WP.bind w) fun y H1 ⟨F1,k,e1,q1,w1⟩=>?_⟩
 have s1:=s.ext e1
 cases hi:mf ρ i with
 |none=>rw[hi] at w1;exact w1.elim
 |some d=>
  rw[hi] at w1
  have w1:WP X.K Xw F1 H1 (match Ba d k with | some o=>M.ret (.bl (if neg then !o.isSome else o.isSome)) | none=>M.stuck) Q:=w1
  cases he:Ba d k with
  |none=>rw[he] at w1;exact w1.elim
  |some o=>
   rw[he] at w1
   obtain⟨a,ov,h1,h2,h3,_⟩:=ue s1 hi q1 he
   refine⟨.ref a,h1,a,ov,rfl,h2,?_⟩
   rw[h3]
   exact WP.now w1 e1.fh rfl
theorem HM(hu:X.A.units+64<cLine)(ha:PD X Xw a δ)(hv:PE X (.Name x p) (mX i))(hm:behindInMarks .In (.Name x p)=false:=by rfl):PD X Xw (.Compare a [.In] [.Name x p] pos) (Eo false i δ):=
 PE.weak (Dd (C3 (by omega) ha hv) hm) fun σ H Q h=>Cu (neg:=false) h
def BK(i:Nat):DS:=fun ρ=>M.ret (.nx (ρ.set i (some (.ow (.dct [] [])))))
theorem yJ(hN:X.N.Nodup)(hi:X.N[i]? =some x)(hx:Loc X.env.scope x)(hf:X.fn x=true∨X.env.scope.names.lookup x=some .local:=by first | exact .inl rfl | exact .inr rfl):
 g0 X Xw (.Assign [.Name x pos'] (.Dict [] [] rq) pos) (BK i):=fun F₀ H₀=>PS.weak (tK yE (cf hN hi hx hf) rfl) fun D σ H ⟨F,ρ,s,w⟩=>fun q hq=>
 w _ F _ (s.setNew (c₀:= .dct [] []) hq ⟨[],rfl,rfl,rfl,Nat.zero_le _⟩)
def mR:C→D→D→Option C
 | .dct ks ds,k,d=>match dQ k with
   |some kk=>if ds.length<lim then some (.dct (f9 ks ds kk) (eF ks ds kk d)) else none
   |none=>none
 | .dci ks ds,k,d=>match sR k with
   |some kk=>if ds.length<lim then some (.dci (f9 ks ds kk) (eF ks ds kk d)) else none
   |none=>none
 |_,_,_=>none
def Ap(ρ:aY)(i:Nat):Option C:=match ρ[i]? with
 |some (some (.ow c))=>some c
 |_=>none
theorem wc{ρ:aY}{i:Nat}{c:C}(h:Ap ρ i=some c):ρ[i]? =some (some (.ow c)):=by
 unfold Ap at h
 split at h
 ·rename_i c' e
  cases h
  exact e
 ·cases h
def u6(i:Nat)(δk δv:DE):DS:=fun ρ=>match Ap ρ i with
 |some c=>δv ρ>>=fun v=>δk ρ>>=fun k=>match mR c k v with
  |some c'=>M.ret (.nx (ρ.set i (some (.ow c'))))
  |none=>M.stuck
 |none=>M.stuck
theorem n6{κ:Type}[DecidableEq κ]{ks:List κ}{ds:List D}{k:κ}{d:D}(hl:ks.length=ds.length)(h:ds.length<lim):(eF ks ds k d).length≤lim:=by
 unfold eF
 split
 ·rw[lY ks ds k d hl];omega
 ·rw[List.length_append];exact h
theorem yR{K:W.Frag}{F H:Hp}{c c':C}{k d:D}{y v:V}{o:HO}{b:Addr}(hs:Same F H)(hb:H b=some o)(hc:DenC K F c o)(hk:Den K F k y)(hd:Den K F d v)(e:mR c k d=some c'):∃o',DPut H b y v (upd H b o')∧DenC K F c' o':=by
 have EV:=cW
 unfold mR at e
 split at e
 ·rename_i ks ds k d
  obtain⟨vs,rfl,h3,h4,h5⟩:=hc
  split at e
  ·rename_i kk q
   split at e
   ·rename_i dz
    cases e
    unfold dQ at q
    split at q
    ·rename_i es
     obtain⟨b2,ws,rfl,k2,k3,_⟩:=hk
     have e1:=fQ q k3
     subst e1
     obtain⟨us,e2,e3,e4⟩:=u0 hd kk h3 h4
     refine⟨_,DPut.t hb (hs _ _ k2) (by rw[ve h3 h4];omega),us,?_,e3,e4,n6 h4 dz⟩
     rw[e2]
    ·cases q
   ·cases e
  ·cases e
 ·rename_i ks ds k d
  obtain⟨vs,rfl,h3,h4,h5⟩:=hc
  split at e
  ·rename_i kk q
   split at e
   ·rename_i dz
    cases e
    have e1:=lA q hk
    subst e1
    obtain⟨us,e2,e3,e4⟩:=u0 hd kk h3 h4
    refine⟨_,DPut.k hb (by rw[ve h3 h4];omega),us,?_,e3,e4,n6 h4 dz⟩
    rw[e2]
   ·cases e
  ·cases e
 ·cases e
theorem yK(hu:X.A.units+64<cLine)(hv:PE X (.Name x p) (mX i))(hk:PD X Xw a δk)(he:PD X Xw e δv)(hs:swapsWith e (some (.Subscript (.Name x p) a pos')) pos.line X.env=pure false:=by rfl):
 g0 X Xw (.Assign [.Subscript (.Name x p) a pos'] e pos) (u6 i δk δv):=fun F₀ H₀=>PS.weak (AH (by omega) hv hk he hs) fun D σ H ⟨F,ρ,s,w⟩=>by
 unfold u6 at w
 cases ho:Ap ρ i with
 |none=>rw[ho] at w;exact w.elim
 |some c=>
  rw[ho] at w
  have hi:=wc ho
  have w:WPS X.K Xw F₀ H₀ (δv ρ>>=fun v=>δk ρ>>=fun k=>match mR c k v with | some c'=>M.ret (.nx (ρ.set i (some (.ow c')))) | none=>M.stuck) D:=w
  refine⟨F,ρ,s.st,?_⟩
  rcases(δv ρ).cs with q | ⟨n,q⟩ | ⟨dv,q⟩
  ·rw[q] at w;exact w.elim
  ·rw[q] at w⊢;exact fun F' H' e'=>w F' H' (s.ext.trans e')
  ·rw[q] at w⊢
   intro v H1 F1 e1 hq
   have s1:=s.ext' e1
   obtain⟨u,h1,b,o,rfl,h2,h3,h4⟩:=s1.st.den i _ hi
   have w:WPS X.K Xw F₀ H₀ (δk ρ>>=fun k=>match mR c k dv with | some c'=>M.ret (.nx (ρ.set i (some (.ow c')))) | none=>M.stuck) D:=w
   refine⟨.ref b,h1,F1,ρ,s1.st,?_⟩
   rcases(δk ρ).cs with q2 | ⟨n,q2⟩ | ⟨dk,q2⟩
   ·rw[q2] at w;exact w.elim
   ·rw[q2] at w⊢;exact fun F' H' e'=>w F' H' (s1.ext.trans e')
   ·rw[q2] at w⊢
    intro y H2 F2 e2 hy
    have w:WPS X.K Xw F₀ H₀ (match mR c dk dv with | some c'=>M.ret (.nx (ρ.set i (some (.ow c')))) | none=>M.stuck) D:=w
    cases hp:mR c dk dv with
    |none=>rw[hp] at w;exact w.elim
    |some c'=>
     rw[hp] at w
     have s2:=s1.ext' e2
     obtain⟨u2,k1,b2,o2,EJ,k2,k3,k4⟩:=s2.st.den i _ hi
     rw[h1] at k1
     cases k1
     cases EJ
     obtain⟨o',g,hc⟩:=yR s2.st.fh k2 k4 hy (Den.mono e2.ff hq) hp
     exact⟨b,_,rfl,g,w σ F2 _ (s2.chg hi h1 hc)⟩
end
section
variable{X:Cx}{Xw:Nat→Hp→Prop}{τ:DS}{tc:DT}{pos:Pos}
end
def iC:List D→Option (List (List Key))
 |[]=>some []
 |d::ds=>match dQ d,iC ds with
  |some k,some ks=>some (k::ks)
  |_,_=>none
theorem B0:∀{x y:D}{k k':Key}{n:Nat},sR x=some k→sR y=some k'→fJ n x y=some (decide (k=k'))
 | .int i, .int j,_,_,n,e1,e2=>by
   cases e1;cases e2
   have:fJ n (.int i) (.int j)=some (i==j):=by cases n<;>rfl
   rw[this]
   congr 1
   by_cases h:i=j
   ·subst h;simp
   ·simp[h]
 | .str x, .str y,_,_,n,e1,e2=>by
   cases e1;cases e2
   have:fJ n (.str x) (.str y)=some (x==y):=by cases n<;>rfl
   rw[this]
   congr 1
   by_cases h:x=y
   ·subst h;simp
   ·simp[h]
 | .int i, .str y,_,_,n,e1,e2=>by
   cases e1;cases e2
   have:fJ n (.int i) (.str y)=some false:=by cases n<;>rfl
   rw[this]
   simp
 | .str x, .int j,_,_,n,e1,e2=>by
   cases e1;cases e2
   have:fJ n (.str x) (.int j)=some false:=by cases n<;>rfl
   rw[this]
   simp
 | .non,_,_,_,_,e1,_=>by cases e1
 | .bl _,_,_,_,_,e1,_=>by cases e1
 | .raw _,_,_,_,_,e1,_=>by cases e1
 | .exc _,_,_,_,_,e1,_=>by cases e1
 | .scr _,_,_,_,_,e1,_=>by cases e1
 | .tup _,_,_,_,_,e1,_=>by cases e1
 | .lst _,_,_,_,_,e1,_=>by cases e1
 | .dct _ _,_,_,_,_,e1,_=>by cases e1
 | .dci _ _,_,_,_,_,e1,_=>by cases e1
 |_, .non,_,_,_,_,e2=>by cases e2
 |_, .bl _,_,_,_,_,e2=>by cases e2
 |_, .raw _,_,_,_,_,e2=>by cases e2
 |_, .exc _,_,_,_,_,e2=>by cases e2
 |_, .scr _,_,_,_,_,e2=>by cases e2
 |_, .tup _,_,_,_,_,e2=>by cases e2
 |_, .lst _,_,_,_,_,e2=>by cases e2
 |_, .dct _ _,_,_,_,_,e2=>by cases e2
 |_, .dci _ _,_,_,_,_,e2=>by cases e2
theorem uq{n:Nat}:∀{xs ys:List D}{k k':List Key},oY xs=some k→oY ys=some k'→kD (fJ n) xs ys=some (decide (k=k'))
 |[],[],_,_,e1,e2=>by cases e1;cases e2;rfl
 |x::xs,[],_,_,e1,e2=>by
  cases e2
  unfold oY at e1
  split at e1
  ·cases e1;simp[kD]
  ·cases e1
 |[],y::ys,_,_,e1,e2=>by
  cases e1
  unfold oY at e2
  split at e2
  ·cases e2;simp[kD]
  ·cases e2
 |x::xs,y::ys,_,_,e1,e2=>by
  unfold oY at e1 e2
  split at e1
  ·rename_i k ks q1 q2
   cases e1
   split at e2
   ·rename_i k' xV q3 q4
    cases e2
    unfold kD
    rw[B0 q1 q3,uq q2 q4]
    simp
   ·cases e2
  ·cases e1
theorem zQ{x y:D}{k k':List Key}{n:Nat}(e1:dQ x=some k)(e2:dQ y=some k'):fJ (n+1) x y=some (decide (k=k')):=by
 cases x with
 |tup xs=>
  cases y with
  |tup ys=>exact uq (n:=n) e1 e2
  |_=>cases e2
 |_=>cases e1
theorem xU{K:W.Frag}{F:Hp}{d:D}{v:V}{k:List Key}(e:dQ d=some k)(h:Den K F d v):∃a,v= .ref a∧F a=some (.tup (k.map kV)):=by
 cases d with
 |tup ds=>
  obtain⟨a,vs,rfl,h2,h3,_⟩:=h
  have:=fQ e h3
  subst this
  exact⟨a,rfl,h2⟩
 |_=>cases e
def jg(k:List Key)(ks:List (List Key)):Bool:=ks.any fun k'=>decide (k'=k)
open Classical in
noncomputable def isKey(H:Hp)(k:List Key)(u:Value):Bool:=decide (∃a,u= .ref a∧H a=some (.tup (k.map kV)))
theorem vI{K:W.Frag}{F H:Hp}{d:D}{v:V}{u:Value}{k k':List Key}(hs:Same F H)(e:dQ d=some k')(h:Den K F d v)(r:RelV v u):isKey H k u=decide (k'=k):=by
 obtain⟨a,rfl,h2⟩:=xU e h
 cases (show u=_ from r)
 unfold isKey
 by_cases hk:k'=k
 ·subst hk
  rw[decide_eq_true rfl]
  exact @decide_eq_true _ (Classical.propDecidable _) ⟨a,rfl,hs _ _ h2⟩
 ·rw[decide_eq_false hk]
  refine @decide_eq_false _ (Classical.propDecidable _) fun⟨b,e1,e2⟩=>hk ?_
  cases e1
  rw[hs _ _ h2] at e2
  injection e2 with e2
  injection e2 with e2
  exact uF e2
theorem eE{X:Cx}{pins:List (Addr×Obj)}{σ:St}{F H:Hp}{s:Shared}{A:Around}{x:D}{v:V}{u:Value}{k:List Key}(I:Inv X pins σ H s)(hs:Same F H)(hu:A.units+6<cLine)(ex:dQ x=some k)(hx:Den X.K F x v)(rx:RelV v u):
 ∀{ys:List D}{vs:List V}{aA:List Value}{ks:List (List Key)},iC ys=some ks→DenL X.K F ys vs→Vals vs aA→aA.any (isKey H k)=jg k ks∧∀t∈aA,EqAt A s t u (isKey H k t)
 |[],_,_,_,e,h,r=>by
  cases e
  cases (show _=_ from h)
  cases r
  exact⟨rfl,fun t ht=>by cases ht⟩
 |y::ys,_,_,_,e,⟨w,ws,h1,h2,h3⟩,r=>by
  subst h1
  unfold iC at e
  split at e
  ·rename_i k' ks e1 e2
   cases e
   cases r with
   |cons r1 r2=>
    obtain⟨Hw,Hx⟩:=eE I hs hu ex hx rx e2 h3 r2
    have hk:=vI (k:=k) hs e1 h2 r1
    refine⟨?_,fun t ht=>?_⟩
    ·rw[List.any_cons,Hw,hk]
     rfl
    ·rcases List.mem_cons.mp ht with rfl | ht
     ·rw[hk]
      exact(oP I hs 6 A y x w v t u _ hu h2 hx r1 rx (zQ e1 ex)).eq
     ·exact Hx t ht
  ·cases e
def mK(neg:Bool):D→D→M D
 |x, .lst ys=>match dQ x,iC ys with
  |some k,some ks=>M.ret (.bl (if neg then !jg k ks else jg k ks))
  |_,_=>M.stuck
 |x, .tup ys=>match dQ x,iC ys with
  |some k,some ks=>M.ret (.bl (if neg then !jg k ks else jg k ks))
  |_,_=>M.stuck
 |_,_=>M.stuck
def Dx(K:W.Frag)(neg:Bool):R2:=fun x y H Q=>∃F dx ys vs p k ks,Same F H∧Den K F dx x∧dQ dx=some k∧iC ys=some ks∧DenL K F ys vs∧y= .ref p∧(SqL K H p vs∨SqT K H p vs)∧Q (.bl (if neg then !jg k ks else jg k ks)) H
section
variable{X:Cx}{Xw:Nat→Hp→Prop}{a b:Expr}{δa δb:DE}{pos:Pos}
theorem HG(hu:X.A.units+64<cLine):OpR X (compareOp .In) (Dx X.K false):=by
 intro pins s σ H x y v u Q I rx ry h
 obtain⟨F,dx,ys,vs,p,k,ks,hs,hx,ex,ek,hd,rfl,hq,q⟩:=h
 cases (show u=_ from ry)
 have E6:X.A.in1.units+6<cLine:=by show X.A.units+1+6<cLine;omega
 rcases hq with hq | hq
 ·obtain⟨aA,r,pl,hz⟩:=I.list hq
  obtain⟨e1,e2⟩:=eE (A:=X.A.in1) I hs E6 ex hx rx ek hd r
  refine SeqAt.in_listAt (isKey H k) pl.isList (fun w hw=>e2 w (by simpa using hw)) ⟨.bl _,H,I,rfl,?_⟩
  rw[show aA.toArray.any (isKey H k)=aA.any (isKey H k) by simp,e1]
  exact q
 ·obtain⟨aA,r,pl,hz⟩:=I.tuple hq
  obtain⟨e1,e2⟩:=eE (A:=X.A.in1) I hs E6 ex hx rx ek hd r
  refine SeqAt.in_tupleAt (isKey H k) pl (fun w hw=>e2 w (by simpa using hw)) ⟨.bl _,H,I,rfl,?_⟩
  rw[show aA.toArray.any (isKey H k)=aA.any (isKey H k) by simp,e1]
  exact q
theorem wb(hu:X.A.units+64<cLine):OpR X (compareOp .NotIn) (Dx X.K true):=by
 intro pins s σ H x y v u Q I rx ry h
 obtain⟨F,dx,ys,vs,p,k,ks,hs,hx,ex,ek,hd,rfl,hq,q⟩:=h
 cases (show u=_ from ry)
 have E6:X.A.in1.units+6<cLine:=by show X.A.units+1+6<cLine;omega
 rcases hq with hq | hq
 ·obtain⟨aA,r,pl,hz⟩:=I.list hq
  obtain⟨e1,e2⟩:=eE (A:=X.A.in1) I hs E6 ex hx rx ek hd r
  refine SeqAt.notIn_listAt (isKey H k) pl.isList (fun w hw=>e2 w (by simpa using hw)) ⟨.bl _,H,I,rfl,?_⟩
  rw[show aA.toArray.any (isKey H k)=aA.any (isKey H k) by simp,e1]
  exact q
 ·obtain⟨aA,r,pl,hz⟩:=I.tuple hq
  obtain⟨e1,e2⟩:=eE (A:=X.A.in1) I hs E6 ex hx rx ek hd r
  refine SeqAt.notIn_tupleAt (isKey H k) pl (fun w hw=>e2 w (by simpa using hw)) ⟨.bl _,H,I,rfl,?_⟩
  rw[show aA.toArray.any (isKey H k)=aA.any (isKey H k) by simp,e1]
  exact q
theorem Cv{neg:Bool}{K:W.Frag}:se K (Dx K neg) (mK neg):=fun Xw F H x y dx dy Q s hx hy w=>by
 unfold mK at w
 split at w
 ·rename_i ys
  split at w
  ·rename_i k ks e1 e2
   obtain⟨p,vs,h1,h2,h3,_⟩:=hy
   exact⟨F,dx,ys,vs,p,k,ks,s,hx,e1,e2,h3,h1, .inl (SqL.of (s _ _ h2)),WP.now w s rfl⟩
  ·exact w.elim
 ·rename_i ys
  split at w
  ·rename_i k ks e1 e2
   obtain⟨p,vs,h1,h2,h3,_⟩:=hy
   exact⟨F,dx,ys,vs,p,k,ks,s,hx,e1,e2,h3,h1, .inr (SqT.of (s _ _ h2)),WP.now w s rfl⟩
  ·exact w.elim
 ·exact w.elim
theorem jr(hu:X.A.units+64<cLine)(ha:PD X Xw a δa)(hb:PD X Xw b δb)(hm:behindInMarks .NotIn b=false:=by rfl):m7 X Xw (.Compare a [.NotIn] [b] pos) (b_ (d2 (mK true) δa δb)):=e_ (wb hu) Cv ha hb hm
end
end L3
namespace L3
open PySem PySem.W PyProof.Rows
def cw{α:Type}(b:Nat→Nat→Bool):KasT α→α
 | .ret a=>a
 | .ask i j k=>cw b (k (b i j))
theorem dG{α β:Type}(b:Nat→Nat→Bool)(f:α→KasT β):∀t:KasT α,cw b (t.bind f)=cw b (f (cw b t))
 | .ret _=>rfl
 | .ask i j k=>dG b f (k (b i j))
structure Lt (n:Nat) (b:Nat→Nat→Bool):Prop where
 tr:∀i j k,b i j=true→b j k=true→b i k=true
 K6:∀i j,b i j=true→b j i=false
 tot:∀i j,i<n→j<n→i≠j→b i j=true∨b j i=true
abbrev at'(p:Array Nat)(i:Nat):Nat:=p.getD i 0
def Ri(b:Nat→Nat→Bool)(p:Array Nat)(k:Nat):Prop:=∀i j,i<j→j<k→b (at' p i) (at' p j)=true
def Fa(b:Nat→Nat→Bool)(p:Array Nat)(k:Nat):Prop:=∀i j,i<j→j<k→b (at' p j) (at' p i)=true
structure PN (n:Nat) (p:Array Nat):Prop where
 sz:p.size=n
 lt:∀i,i<n→at' p i<n
 inj:∀i j,i<n→j<n→at' p i=at' p j→i=j
section
variable{n:Nat}{b:Nat→Nat→Bool}(L:Lt n b)
include L
theorem Ri.more{p:Array Nat}{k:Nat}(h:Ri b p k)(h1:1≤k)(e:b (at' p (k - 1)) (at' p k)=true):Ri b p (k+1):=fun i j uv hj=>by
 by_cases hk:j<k
 ·exact h i j uv hk
 ·have:j=k:=by omega
  subst this
  by_cases hi:i=j - 1
  ·subst hi;exact e
  ·exact L.tr _ _ _ (h i (j - 1) (by omega) (by omega)) e
theorem Fa.more{p:Array Nat}{k:Nat}(h:Fa b p k)(h1:1≤k)(e:b (at' p k) (at' p (k - 1))=true):Fa b p (k+1):=fun i j uv hj=>by
 by_cases hk:j<k
 ·exact h i j uv hk
 ·have:j=k:=by omega
  subst this
  by_cases hi:i=j - 1
  ·subst hi;exact e
  ·exact L.tr _ _ _ e (h i (j - 1) (by omega) (by omega))
theorem oA{p:Array Nat}(P:PN n p):∀(f k:Nat),1≤k→k+f≤n→Ri b p k→k≤cw b (kas_asc p f k)∧cw b (kas_asc p f k)≤k+f∧Ri b p (cw b (kas_asc p f k))∧(cw b (kas_asc p f k)<k+f→b (at' p (cw b (kas_asc p f k))) (at' p (cw b (kas_asc p f k) - 1))=true)
 |0,k,h1,hn,h=>⟨Nat.le_refl _,Nat.le_refl _,h,fun z=>absurd z (Nat.lt_irrefl _)⟩
 |f+1,k,h1,hn,h=>by
  have e:cw b (kas_asc p (f+1) k)=cw b (if b (at' p k) (at' p (k - 1))=true then KasT.ret k else kas_asc p f (k+1)):=rfl
  rw[e]
  by_cases hb:b (at' p k) (at' p (k - 1))=true
  ·rw[if_pos hb]
   exact⟨Nat.le_refl _,by show k≤_;omega,h,fun _=>hb⟩
  ·rw[if_neg hb]
   have hr:b (at' p (k - 1)) (at' p k)=true:=by
    rcases L.tot (at' p (k - 1)) (at' p k) (P.lt _ (by omega)) (P.lt _ (by omega)) (fun z=>by have:=P.inj _ _ (by omega) (by omega) z;omega) with q | q
    ·exact q
    ·exact absurd q hb
   obtain⟨a1,a2,a3,a4⟩:=oA P f (k+1) (by omega) (by omega) (Ri.more L h h1 hr)
   exact⟨by omega,by omega,a3,fun z=>a4 (by omega)⟩
theorem qt{p:Array Nat}(P:PN n p):∀(f k:Nat),1≤k→k+f≤n→Fa b p k→∃m,cw b (kas_desc f p k 0)=(p,m,0)∧k≤m∧m≤k+f∧Fa b p m
 |0,k,h1,hn,h=>⟨k,rfl,Nat.le_refl _,Nat.le_refl _,h⟩
 |f+1,k,h1,hn,h=>by
  have e:cw b (kas_desc (f+1) p k 0)=cw b (if b (at' p k) (at' p (k - 1))=true then(if 0>0 then kas_desc f (kas_rev p (k - (0+1)) k) (k+1) 0 else kas_desc f p (k+1) 0)
   else .ask (p.getD (k - 1) 0) (p.getD k 0) fun d=>if d=true then .ret (p,k,0) else kas_desc f p (k+1) (0+1)):=rfl
  rw[e]
  by_cases hb:b (at' p k) (at' p (k - 1))=true
  ·rw[if_pos hb,if_neg (by omega)]
   obtain⟨m,e1,e2,e3,e4⟩:=qt P f (k+1) (by omega) (by omega) (Fa.more L h h1 hb)
   exact⟨m,e1,by omega,by omega,e4⟩
  ·rw[if_neg hb]
   have hr:b (at' p (k - 1)) (at' p k)=true:=by
    rcases L.tot (at' p (k - 1)) (at' p k) (P.lt _ (by omega)) (P.lt _ (by omega)) (fun z=>by have:=P.inj _ _ (by omega) (by omega) z;omega) with q | q
    ·exact q
    ·exact absurd q hb
   refine⟨k,?_,Nat.le_refl _,by omega,h⟩
   show cw b (if b (at' p (k - 1)) (at' p k)=true then KasT.ret (p,k,0) else kas_desc f p (k+1) (0+1))=_
   rw[if_pos hr]
   rfl
end
theorem cV(p:Array Nat)(k:Nat):at' p k=(p[k]?).getD 0:=by
 unfold at'
 rw[Array.getD_eq_getD_getElem?]
theorem yX{p:Array Nat}{m:Nat}(hm:m≤p.size)(k:Nat):at' (kas_rev p 0 m) k=if k<m then at' p (m - 1 - k) else at' p k:=by
 have e:=getElem?_mirror_all (xs:=p) (i:=0) hm k
 rw[cV]
 show (((mirror p 0 m ((m - 0) / 2))[k]?).getD 0)=_
 rw[e]
 by_cases h:k<m
 ·rw[if_pos ⟨Nat.zero_le _,h⟩,if_pos h,cV,Nat.zero_add]
 ·rw[if_neg (fun z=>h z.2),if_neg h,cV]
theorem w9{p:Array Nat}{k l:Nat}(hk:k<p.size)(hl:l≤k)(j:Nat):at' (bubble p k (k - l)) j=if j=l then at' p k else if l<j∧j≤k then at' p (j - 1) else at' p j:=by
 have e:=getElem?_bubble hk (k - l) (by omega) j
 have e2:k - (k - l)=l:=by omega
 rw[e2] at e
 rw[cV (bubble p k (k - l)),e,cV p k,cV p (j - 1),cV p j]
 by_cases c1:j=l
 ·rw[if_pos c1,if_pos c1]
 ·rw[if_neg c1,if_neg c1]
  by_cases c2:l<j∧j≤k
  ·rw[if_pos c2,if_pos c2]
  ·rw[if_neg c2,if_neg c2]
section
variable{n:Nat}{b:Nat→Nat→Bool}
theorem PN.rev{p:Array Nat}(P:PN n p){m:Nat}(hm:m≤n):PN n (kas_rev p 0 m):=by
 have ha:=yX (p:=p) (m:=m) (by rw[P.sz];exact hm)
 refine⟨(mirror_size ..).trans P.sz,fun i hi=>?_,fun i j hi hj e=>?_⟩
 ·rw[ha]
  split
  ·exact P.lt _ (by omega)
  ·exact P.lt _ hi
 ·rw[ha,ha] at e
  split at e<;>split at e
  ·have:=P.inj _ _ (by omega) (by omega) e;omega
  ·have:=P.inj _ _ (by omega) hj e;omega
  ·have:=P.inj _ _ hi (by omega) e;omega
  ·exact P.inj _ _ hi hj e
theorem PN.bub{p:Array Nat}(P:PN n p){k l:Nat}(hk:k<n)(hl:l≤k):PN n (bubble p k (k - l)):=by
 have ha:=w9 (p:=p) (k:=k) (l:=l) (by rw[P.sz];exact hk) hl
 refine⟨(bubble_size ..).trans P.sz,fun i hi=>?_,fun i j hi hj e=>?_⟩
 ·rw[ha]
  split
  ·exact P.lt _ hk
  ·split
   ·exact P.lt _ (by omega)
   ·exact P.lt _ hi
 ·rw[ha,ha] at e
  split at e
  ·split at e
   ·omega
   ·split at e
    ·have:=P.inj _ _ hk (by omega) e;omega
    ·have:=P.inj _ _ hk hj e;omega
  ·split at e
   ·split at e
    ·have:=P.inj _ _ (by omega) hk e;omega
    ·split at e
     ·have:=P.inj _ _ (by omega) (by omega) e;omega
     ·have:=P.inj _ _ (by omega) hj e;omega
   ·split at e
    ·have:=P.inj _ _ hi hk e;omega
    ·split at e
     ·have:=P.inj _ _ hi (by omega) e;omega
     ·exact P.inj _ _ hi hj e
theorem Fa.rev{p:Array Nat}(P:PN n p){m:Nat}(hm:m≤n)(h:Fa b p m):Ri b (kas_rev p 0 m) m:=fun i j uv hj=>by
 have ha:=yX (p:=p) (m:=m) (by rw[P.sz];exact hm)
 rw[ha,ha,if_pos (by omega),if_pos hj]
 exact h _ _ (by omega) (by omega)
variable(L:Lt n b)
include L
theorem zk{p:Array Nat}(P:PN n p){m:Nat}(h1:1≤m)(hm:m≤n)(h:Fa b p m):∃k q,cw b (kas_tail3 m n p)=(k,q)∧PN n q∧1≤k∧k≤n∧Ri b q k:=by
 unfold kas_tail3
 rw[dG]
 obtain⟨a1,a2,a3,_⟩:=oA L (P.rev hm) (n - m) m h1 (by omega) (Fa.rev P hm h)
 exact⟨_,_,rfl,P.rev hm,by omega,by omega,a3⟩
theorem vz{p:Array Nat}(P:PN n p)(h2:2≤n):∃k q,cw b (kas_count n p)=(k,q)∧PN n q∧1≤k∧k≤n∧Ri b q k:=by
 unfold kas_count
 rw[dG]
 obtain⟨a1,a2,a3,a4⟩:=oA L P (n - 1) 1 (Nat.le_refl _) (by omega) (fun i j uv hj=>by omega)
 generalize cw b (kas_asc p (n - 1) 1)=m at a1 a2 a3 a4
 by_cases he:m=n
 ·subst he
  rw[if_pos (by simp)]
  exact⟨m,p,rfl,P,by omega,Nat.le_refl _,a3⟩
 ·rw[if_neg (by simpa using he)]
  by_cases hg:m>1
  ·rw[if_pos hg]
   have hb:b (p.getD 0 0) (p.getD (m - 1) 0)=true:=a3 0 (m - 1) (by omega) (by omega)
   show∃k q,cw b (if b (p.getD 0 0) (p.getD (m - 1) 0)=true then KasT.ret (m,p) else kas_descPart m n (kas_rev p 0 m))=(k,q)∧_
   rw[if_pos hb]
   exact⟨m,p,rfl,P,by omega,by omega,a3⟩
  ·rw[if_neg hg]
   have hm:m=1:=by omega
   subst hm
   have hb:=a4 (by omega)
   unfold kas_descPart
   rw[dG]
   obtain⟨m,e1,e2,e3,e4⟩:=qt L P (n - (1+1)) (1+1) (by omega) (by omega) (fun i j uv hj=>by
    have hi:i=0:=by omega
    have hj:j=1:=by omega
    subst hi hj
    exact hb)
   rw[e1]
   dsimp only
   rw[if_neg (by omega)]
   exact zk L P (by omega) (by omega) e4
theorem jq{p:Array Nat}(P:PN n p){k:Nat}(hk:k<n)(h:Ri b p k):∀(f l r:Nat),l≤r→r≤k→r - l≤f→(∀i,i<l→b (at' p i) (at' p k)=true)→(∀i,r≤i→i<k→b (at' p k) (at' p i)=true)→
 cw b (kas_place p k f l r)≤k∧(∀i,i<cw b (kas_place p k f l r)→b (at' p i) (at' p k)=true)∧∀i,cw b (kas_place p k f l r)≤i→i<k→b (at' p k) (at' p i)=true
 |0,l,r,h1,h2,h3,h4,h5=>by
  have:r=l:=by omega
  subst this
  exact⟨h2,h4,h5⟩
 |f+1,l,r,h1,h2,h3,h4,h5=>by
  unfold kas_place
  by_cases IV:l≥r
  ·rw[if_pos IV]
   have:r=l:=by omega
   subst this
   exact⟨h2,h4,h5⟩
  ·rw[if_neg IV]
   have hm:(l+r) / 2<r:=by omega
   have Ce:l≤(l+r) / 2:=by omega
   show cw b (if b (at' p k) (at' p ((l+r) / 2))=true then kas_place p k f l ((l+r) / 2) else kas_place p k f ((l+r) / 2+1) r)≤k∧(∀i,i<cw b (if b (at' p k) (at' p ((l+r) / 2))=true then kas_place p k f l ((l+r) / 2) else kas_place p k f ((l+r) / 2+1) r)→_)∧∀i,cw b (if b (at' p k) (at' p ((l+r) / 2))=true then kas_place p k f l ((l+r) / 2) else kas_place p k f ((l+r) / 2+1) r)≤i→_
   by_cases hb:b (at' p k) (at' p ((l+r) / 2))=true
   ·rw[if_pos hb]
    refine jq P hk h f l ((l+r) / 2) Ce (by omega) (by omega) h4 fun i hi Ke=>?_
    by_cases e:i=(l+r) / 2
    ·rw[e];exact hb
    ·exact L.tr _ _ _ hb (h _ _ (by omega) Ke)
   ·rw[if_neg hb]
    have hr:b (at' p ((l+r) / 2)) (at' p k)=true:=by
     rcases L.tot (at' p ((l+r) / 2)) (at' p k) (P.lt _ (by omega)) (P.lt _ hk) (fun z=>by have:=P.inj _ _ (by omega) hk z;omega) with q | q
     ·exact q
     ·exact absurd q hb
    refine jq P hk h f ((l+r) / 2+1) r (by omega) h2 (by omega) (fun i hi=>?_) h5
    by_cases e:i=(l+r) / 2
    ·rw[e];exact hr
    ·exact L.tr _ _ _ (h i ((l+r) / 2) (by omega) (by omega)) hr
theorem ug:∀(f:Nat) {p:Array Nat}{k:Nat},PN n p→k+f≤n→Ri b p k→PN n (cw b (kas_bin f p k))∧Ri b (cw b (kas_bin f p k)) (k+f)
 |0,p,k,P,_,h=>⟨P,h⟩
 |f+1,p,k,P,hn,h=>by
  have hk:k<n:=by omega
  unfold kas_bin
  rw[dG]
  obtain⟨a1,a2,a3⟩:=jq L P hk h k 0 k (Nat.zero_le _) (Nat.le_refl _) (by omega) (fun i hi=>by omega) (fun i h1 h2=>by omega)
  generalize cw b (kas_place p k k 0 k)=l at a1 a2 a3
  have ha:=w9 (p:=p) (k:=k) (l:=l) (by rw[P.sz];exact hk) a1
  have hR:Ri b (bubble p k (k - l)) (k+1):=fun i j uv hj=>by
   rw[ha,ha]
   by_cases c1:i=l
   ·rw[if_pos c1,if_neg (by omega),if_pos ⟨by omega,by omega⟩]
    exact a3 _ (by omega) (by omega)
   ·rw[if_neg c1]
    by_cases c2:j=l
    ·rw[if_pos c2,if_neg (by omega)]
     exact a2 _ (by omega)
    ·rw[if_neg c2]
     by_cases c3:l<i∧i≤k
     ·rw[if_pos c3,if_pos ⟨by omega,by omega⟩]
      exact h _ _ (by omega) (by omega)
     ·rw[if_neg c3]
      by_cases c4:l<j∧j≤k
      ·rw[if_pos c4]
       exact h _ _ (by omega) (by omega)
      ·rw[if_neg c4]
       exact h _ _ uv (by omega)
  have:=ug f (P.bub hk a1) (by omega) hR
  rw[show k+(f+1)=k+1+f by omega]
  exact this
theorem zc(h2:2≤n):PN n (cw b (kas_sort n))∧Ri b (cw b (kas_sort n)) n:=by
 have P0:PN n (List.toArray (List.range n)):=by
  have e:∀i,i<n→at' (List.toArray (List.range n)) i=i:=fun i hi=>by rw[cV];simp[hi]
  exact⟨by simp,fun i hi=>by rw[e i hi];exact hi,fun i j hi hj z=>by rw[e i hi,e j hj] at z;exact z⟩
 unfold kas_sort
 rw[dG]
 obtain⟨k,q,e,P,k1,kn,hR⟩:=vz L P0 h2
 rw[e]
 dsimp only
 by_cases dz:k<n
 ·rw[if_pos dz]
  have:=ug L (n - max k 1) (k:=max k 1) P (by omega) (by rw[show max k 1=k by omega];exact hR)
  rw[show max k 1+(n - max k 1)=n by omega] at this
  exact this
 ·rw[if_neg dz]
  have:k=n:=by omega
  subst this
  exact⟨P,hR⟩
end
def Asks{α:Type}(n:Nat)(P:α→Prop):KasT α→Prop
 | .ret a=>P a
 | .ask i j k=>i<n∧j<n∧∀c,Asks n P (k c)
theorem Asks.bind{α β:Type}{n:Nat}{P:α→Prop}{Q:β→Prop}{f:α→KasT β}:∀{t:KasT α},Asks n P t→(∀a,P a→Asks n Q (f a))→Asks n Q (t.bind f)
 | .ret a,h,hf=>hf a h
 | .ask i j k,h,hf=>⟨h.1,h.2.1,fun c=>Asks.bind (h.2.2 c) hf⟩
theorem wp_run{α:Type}{n:Nat}{P:α→Prop}{b:Nat→Nat→Bool}{cmp:Nat→Nat→(Bool→Shared→Prop)→Shared→Prop}{Q:α→Shared→Prop}{s:Shared}(hc:∀i j C,i<n→j<n→C (b i j) s→cmp i j C s):∀{t:KasT α},Asks n P t→Q (cw b t) s→t.kasWp cmp Q s
 | .ret a,_,h=>h
 | .ask i j k,ha,h=>hc i j _ ha.1 ha.2.1 (wp_run hc (ha.2.2 _) h)
def Below(n:Nat)(p:Array Nat):Prop:=∀x∈p,x<n
section
variable{n:Nat}(hn:0<n)
include hn
theorem Below.at{p:Array Nat}(h:Below n p)(i:Nat):at' p i<n:=by
 rw[cV]
 cases e:p[i]? with
 |none=>exact hn
 |some x=>exact h x (Array.mem_of_getElem? e)
theorem Below.rev{p:Array Nat}(h:Below n p)(i j:Nat):Below n (kas_rev p i j):=fun x hx=>h x ((mirror_perm p i j ((j - i) / 2)).mem_iff.mp hx)
theorem Below.bub{p:Array Nat}(h:Below n p)(k d:Nat):Below n (bubble p k d):=fun x hx=>h x ((bubble_perm p k d).mem_iff.mp hx)
theorem kO{p:Array Nat}(h:Below n p):∀f k,Asks n (fun _=>True) (kas_asc p f k)
 |0,k=>trivial
 |f+1,k=>⟨Below.at hn h _,Below.at hn h _,fun c=>by
  show Asks n _ (if c=true then KasT.ret k else kas_asc p f (k+1))
  cases c
  ·exact kO h f (k+1)
  ·exact trivial⟩
theorem gu:∀f {p:Array Nat} k q,Below n p→Asks n (fun r=>Below n r.1) (kas_desc f p k q)
 |0,p,k,q,h=>h
 |f+1,p,k,q,h=>⟨Below.at hn h _,Below.at hn h _,fun c=>by
  cases c
  ·refine⟨Below.at hn h _,Below.at hn h _,fun d=>?_⟩
   cases d
   ·exact gu f _ _ h
   ·exact h
  ·show Asks n _ (if q>0 then kas_desc f (kas_rev p (k - (q+1)) k) (k+1) 0 else kas_desc f p (k+1) 0)
   split
   ·exact gu f _ _ (Below.rev hn h _ _)
   ·exact gu f _ _ h⟩
theorem m8{p:Array Nat}(h:Below n p)(m r:Nat):Asks n (fun x=>Below n x.2) (kas_tail3 m r p):=Asks.bind (kO hn (Below.rev hn h 0 m) _ _) fun _ _=>Below.rev hn h 0 m
theorem kP{p:Array Nat}(h:Below n p)(m r:Nat):Asks n (fun x=>Below n x.2) (kas_descPart m r p):=Asks.bind (gu hn _ _ _ h) fun x hx=>by
 split
 ·exact m8 hn (Below.rev hn hx _ _) _ _
 ·exact m8 hn hx _ _
theorem sj{p:Array Nat}(h:Below n p)(r:Nat):Asks n (fun x=>Below n x.2) (kas_count r p):=Asks.bind (kO hn h _ _) fun m _=>by
 split
 ·exact h
 ·split
  ·refine⟨Below.at hn h _,Below.at hn h _,fun c=>?_⟩
   cases c
   ·exact kP hn (Below.rev hn h _ _) _ _
   ·exact h
  ·exact kP hn h _ _
theorem g4{p:Array Nat}(h:Below n p)(k:Nat):∀f l r,Asks n (fun _=>True) (kas_place p k f l r)
 |0,l,r=>trivial
 |f+1,l,r=>by
  unfold kas_place
  split
  ·exact trivial
  ·refine⟨Below.at hn h _,Below.at hn h _,fun c=>?_⟩
   cases c
   ·exact g4 h k f _ _
   ·exact g4 h k f _ _
theorem qf:∀f {p:Array Nat} k,Below n p→Asks n (fun _=>True) (kas_bin f p k)
 |0,p,k,h=>trivial
 |f+1,p,k,h=>Asks.bind (g4 hn h k _ _ _) fun l _=>qf f _ (Below.bub hn h _ _)
theorem vi:Asks n (fun _=>True) (kas_sort n):=by
 have h0:Below n (List.toArray (List.range n)):=fun x hx=>by simpa using hx
 refine Asks.bind (sj hn h0 n) fun x hx=>?_
 split
 ·exact qf hn _ _ hx
 ·exact trivial
end
def cS:List Int→List Int→Bool
 |[],[]=>false
 |[],_::_=>true
 |_::_,[]=>false
 |x::xs,y::ys=>if x=y then cS xs ys else decide (x<y)
theorem o4:∀a b c:List Int,cS a b=true→cS b c=true→cS a c=true
 |[],[],_,h,_=>by cases h
 |[],_::_,[],_,h=>by cases h
 |[],_::_,_::_,_,_=>rfl
 |_::_,[],_,h,_=>by cases h
 |_::_,_::_,[],_,h=>by cases h
 |x::a,y::b,z::c,h1,h2=>by
  unfold cS at h1 h2⊢
  by_cases e1:x=y
  ·subst e1
   rw[if_pos rfl] at h1
   by_cases e2:x=z
   ·subst e2
    rw[if_pos rfl] at h2⊢
    exact o4 a b c h1 h2
   ·rw[if_neg e2] at h2⊢
    exact h2
  ·rw[if_neg e1] at h1
   have h1:=of_decide_eq_true h1
   by_cases e2:y=z
   ·subst e2
    rw[if_neg e1]
    exact decide_eq_true h1
   ·rw[if_neg e2] at h2
    have h2:=of_decide_eq_true h2
    rw[if_neg (by omega)]
    exact decide_eq_true (by omega)
theorem iE:∀a b:List Int,cS a b=true→cS b a=false
 |[],[],h=>by cases h
 |[],_::_,_=>rfl
 |_::_,[],h=>by cases h
 |x::a,y::b,h=>by
  unfold cS at h⊢
  by_cases e:x=y
  ·subst e
   rw[if_pos rfl] at h⊢
   exact iE a b h
  ·rw[if_neg e] at h
   have h:=of_decide_eq_true h
   rw[if_neg (fun z=>e z.symm)]
   exact decide_eq_false (by omega)
theorem lB:∀a b:List Int,a≠b→cS a b=true∨cS b a=true
 |[],[],h=>absurd rfl h
 |[],_::_,_=> .inl rfl
 |_::_,[],_=> .inr rfl
 |x::a,y::b,h=>by
  unfold cS
  by_cases e:x=y
  ·subst e
   rw[if_pos rfl,if_pos rfl]
   exact lB a b fun z=>h (by rw[z])
  ·rw[if_neg e,if_neg (fun z=>e z.symm)]
   by_cases q:x<y
   ·exact .inl (decide_eq_true q)
   ·exact .inr (decide_eq_true (by omega))
section
variable{prog:Program}{w:World}{A:Around}{E:Value→Shared→Prop}{s:Shared}
theorem qM{Q:Bool→Shared→Prop}:∀{us vs:List Value}{xs ys:List Int}(i:Nat) {fin:Bool},IntsAre us xs→IntsAre vs ys→fin=decide (xs.length<ys.length)→Q (cS xs ys) s→KatLex prog w A true fin Q (us.zip vs) i s
 |_,_,_,_,i,_, .nil, .nil,e,h=>by subst e;exact kat_nil h
 |_,_,_,_,i,_, .nil, .cons y t r,e,h=>by subst e;exact kat_nil h
 |_,_,_,_,i,_, .cons x t r, .nil,e,h=>by subst e;exact kat_nil h
 |_,_,_,_,i,_, .cons (vs:=us) (ns:=xs) x t r, .cons (vs:=vs) (ns:=ys) y u r',e,h=>by
  refine kat_cons (wpAny_eqBool_int ?_)
  by_cases q:x=y
  ·subst q
   rw[show (x==x)=true by simp]
   refine kat_yes (qM (i+1) r r' (by rw[e];simp) ?_)
   unfold cS at h
   rw[if_pos rfl] at h
   exact h
  ·rw[show (x==y)=false by simpa using q]
   unfold cS at h
   rw[if_neg q] at h
   refine kat_no ?_
   by_cases hi:(i==0)=true
   ·rw[hi]
    exact oneLt_int h
   ·rw[show (i==0)=false by simpa using hi]
    exact kat_one _ _ (PyProof.Rows.lt_int h)
def TupsAt(h:Heap):List Value→List (List Int)→Prop
 |[],[]=>True
 |v::vs,k::ks=>(∃a o us m,v= .ref a∧h.get? a=some o∧o.cls= .type "tuple"∧o.data= .seq (List.toArray us) m∧IntsAre us k∧k≠[])∧TupsAt h vs ks
 |_,_=>False
theorem TupsAt.len{h:Heap}:∀{vs:List Value}{ks:List (List Int)},TupsAt h vs ks→vs.length=ks.length
 |[],[],_=>rfl
 |v::vs,k::ks,t=>by rw[List.length_cons,List.length_cons,TupsAt.len t.2]
 |[],_::_,t=>t.elim
 |_::_,[],t=>t.elim
theorem TupsAt.get{h:Heap}:∀{vs:List Value}{ks:List (List Int)}{i:Nat},TupsAt h vs ks→i<vs.length→∃a o us m,vs.getD i Value.none= .ref a∧h.get? a=some o∧o.cls= .type "tuple"∧o.data= .seq (List.toArray us) m∧IntsAre us (ks.getD i [])∧ks.getD i []≠[]
 |v::vs,k::ks,0,t,_=>t.1
 |v::vs,k::ks,i+1,t,hi=>TupsAt.get (i:=i) t.2 (by simpa using hi)
 |[],_,_,_,hi=>by simp at hi
 |_::_,[],_,t,_=>t.elim
theorem TupsAt.keep{h h':Heap}{a:Addr}(k:∀b o,b≠a→h.get? b=some o→h'.get? b=some o)(ha:∀o,h.get? a=some o→o.cls≠ .type "tuple"):∀{vs:List Value}{ks:List (List Int)},TupsAt h vs ks→TupsAt h' vs ks
 |[],[],_=>trivial
 |v::vs,x::ks,⟨⟨b,o,us,m,e1,e2,e3,e4⟩,t⟩=>⟨⟨b,o,us,m,e1,k b o (fun z=>ha o (by rw[←z];exact e2) e3) e2,e3,e4⟩,TupsAt.keep k ha t⟩
 |[],_::_,t=>t.elim
 |_::_,[],t=>t.elim
theorem lq:∀{us:List Value}{xs:List Int},IntsAre us xs→us.length=xs.length
 |_,_, .nil=>rfl
 |_,_, .cons x t r=>by rw[List.length_cons,List.length_cons,lq r]
theorem TupsAt.firsts{M:Model}{h:Heap}:∀{vs:List Value}{ks:List (List Int)},TupsAt h vs ks→∃fs,KatTups h vs fs∧fs.length=vs.length∧∀v∈fs,Looks M h (typeOf v) (.type "int")
 |[],[],_=>⟨[],KatTups.nil,rfl,fun _ z=>by cases z⟩
 |v::vs,k::ks,⟨⟨a,o,us,m,e1,e2,e3,e4,e5,e6⟩,t⟩=>by
  obtain⟨fs,q1,q2,q3⟩:=TupsAt.firsts (M:=M) t
  subst e1
  cases e5 with
  |nil=>exact absurd rfl e6
  |cons x t r=>
   refine⟨.int x t::fs,KatTups.cons e2 e3 e4 (by simp) q1,by simp[q2],fun v hv=>?_⟩
   rcases List.mem_cons.mp hv with rfl | hv
   ·exact show Looks M h (pure (Value.type "int")) (Value.type "int") from .now
   ·exact q3 v hv
 |[],_::_,t=>t.elim
 |_::_,[],t=>t.elim
theorem asked{vs:List Value}{ks:List (List Int)}(t:TupsAt s.heap vs ks)(i j:Nat)(C:Bool→Shared→Prop)(hi:i<vs.length)(hj:j<vs.length)(h:C (cS (ks.getD i []) (ks.getD j [])) s):kas_ask prog w A (tuples' true) vs i j C s:=by
 obtain⟨a,o,us,m,e1,e2,_,e4,e5,_⟩:=t.get hi
 obtain⟨a',o',Ll,m',GH,GI,_,JD,Ip,_⟩:=t.get hj
 unfold kas_ask
 rw[e1,GH]
 refine kat_lt e2 e4 GI JD (qM 0 e5 Ip ?_ h)
 rw[List.size_toArray,List.size_toArray,lq e5,lq Ip]
theorem ye{α:Type}{l:List α}(h:l.Nodup){i j:Nat}(hi:i<l.length)(hj:j<l.length)(e:l[i]=l[j]):i=j:=by
 rcases Nat.lt_trichotomy i j with q | q | q
 ·exact absurd e (List.pairwise_iff_getElem.mp h i j hi hj q)
 ·exact q
 ·exact absurd e.symm (List.pairwise_iff_getElem.mp h j i hj hi q)
theorem oe{a:Addr}{c:Nat}{vs:List Value}{ks:List (List Int)}{P:PySem.Fin→Shared→Prop}(ho:s.heap.get? a=some (seqObj "list" vs.toArray c))(ht:TupsAt s.heap vs ks)(hd:ks.Nodup)(F9:vs.length<64)
 (h:∀(p:Array Nat) (h':Heap) (c':Nat),PN vs.length p→Ri (fun i j=>cS (ks.getD i []) (ks.getD j [])) p vs.length→h'.get? a=some (seqObj "list" (List.toArray (p.toList.map fun i=>vs.getD i Value.none)) c')→
  (∀b o,b≠a→s.heap.get? b=some o→h'.get? b=some o)→P (.done (.ret .none)) {s with heap:=h'}):wpAny (model prog w) A (Builtin.«list.sort» ⟨[.ref a],[]⟩) P E s:=by
 have wO:sizeLine=16777216:=sizeLine_eq
 have s1:=Heap.SameBut.update s.heap a (Obj.mapSeq fun _=>(#[]:Array Value))
 obtain⟨e1,IY⟩:∃e1,(s.heap.update a (Obj.mapSeq fun _=>(#[]:Array Value))).get? a=some (seqObj "list" #[] e1):=⟨_,get?_update_seq ho fun _=> #[]⟩
 have k1:∀b o,b≠a→s.heap.get? b=some o→(((s.heap.update a (Obj.mapSeq fun _=>(#[]:Array Value))).push (seqObj "tuple" vs.toArray 0)).push (seqObj "list" #[] 0)).get? b=some o:=fun b o hb e=>
  Heap.get?_push_of_some _ (Heap.get?_push_of_some _ ((s1.2 b hb).trans e))
 have Hc:=Heap.get?_push_of_some (seqObj "list" #[] 0) (Heap.get?_push_of_some (seqObj "tuple" vs.toArray 0) IY)
 have t3:=ht.keep k1 (fun o e z=>by rw[ho] at e;cases e;exact absurd (Value.type.inj z) (by decide))
 have fin:∀(st:SortSt) (p:Array Nat),PN vs.length p→Ri (fun i j=>cS (ks.getD i []) (ks.getD j [])) p vs.length→(arrOf st).map (·.2)=List.toArray (p.toList.map fun i=>vs.getD i Value.none)→failedOf st=none→
  wpAny (model prog w) A (do
   let touched:=(←seqEpoch a) !=e1
   Builtin.List.listUpdate (.ref a) fun _=>(arrOf st).map (·.2)
   if let some e:=failedOf st then rule "list.sort.comparison-raised";throw e
   if touched then rule "list.sort.modified";raiseError "ValueError" "list modified during sort"
   ret .none) P E {s with heap:=((s.heap.update a (Obj.mapSeq fun _=>(#[]:Array Value))).push (seqObj "tuple" vs.toArray 0)).push (seqObj "list" #[] 0)}:=fun st p hp hr he hf=>by
  have hz:(List.toArray (p.toList.map fun i=>vs.getD i Value.none)).size=vs.length:=by rw[List.size_toArray,List.length_map,Array.length_toList,hp.sz]
  rw[he,hf]
  refine wpAny_bind (seqEpoch_at Hc rfl (wpAny_bind (listUpdate_at Hc rfl ?_ (Nat.zero_le _) (by rw[hz,wO];omega))))
  simp only[bne_self_eq_false,Bool.false_eq_true,if_false]
  have s2:=Heap.SameBut.update (((s.heap.update a (Obj.mapSeq fun _=>(#[]:Array Value))).push (seqObj "tuple" vs.toArray 0)).push (seqObj "list" #[] 0)) a (Obj.mapSeq fun _=>List.toArray (p.toList.map fun i=>vs.getD i Value.none))
  exact wpAny_pure (h p _ _ hp hr (get?_update_seq Hc fun _=>List.toArray (p.toList.map fun i=>vs.getD i Value.none)) fun b o hb e=>(s2.2 b hb).trans (k1 b o hb e))
 rw[list_sort_plain]
 refine wpAny_bind (listItems_at ho rfl (wpAny_bind (listUpdate_at ho rfl (wpAny_bind (seqEpoch_at IY rfl ?_)) (by rw[List.size_toArray,wO];omega) (Nat.zero_le _))))
 refine wpAny_bind (wpAny_newTuple (wpAny_bind (wpAny_newList (wpAny_holding ?_) (Nat.zero_le _))) (by show vs.length≤_;rw[wO];omega))
 show wpAny (model prog w) A _ P E {s with heap:=((s.heap.update a (Obj.mapSeq fun _=>(#[]:Array Value))).push (seqObj "tuple" vs.toArray 0)).push (seqObj "list" #[] 0)}
 dsimp only
 by_cases hs:vs.toArray.size<2
 ·rw[if_pos hs,if_pos hs]
  have zA:vs.length<2:=by simpa using hs
  refine wpAny_bind (wpAny_pure (wpAny_bind (wpAny_pure ?_)))
  refine fin (SortSt.mk' general' (vs.toArray.zip vs.toArray) #[] 7 none) (List.toArray (List.range vs.length)) ⟨by simp,fun i hi=>?_,fun i j hi hj _=>by omega⟩ (fun i j uv hj=>by omega) ?_ rfl
  ·rw[cV];simp[hi]
  ·show (vs.toArray.zip vs.toArray).map (·.2)=_
   apply Array.toList_inj.mp
   refine List.ext_getElem (by simp) fun i a1 a2=>?_
   simp at a1
   simp[a1]
 ·rw[if_neg hs,if_neg hs]
  have zA:2≤vs.length:=by
   have:¬vs.length<2:=by simpa using hs
   omega
  obtain⟨fs,q1,q2,q3⟩:=t3.firsts (M:=model prog w)
  refine wpAny_bind (kat_kind q1 (by omega) q3 rfl ?_)
  have hb:Lt vs.length (fun i j=>cS (ks.getD i []) (ks.getD j [])):=⟨fun i j k=>o4 _ _ _,fun i j=>iE _ _,fun i j hi hj uv=>lB _ _ fun z=>uv (by
   rw[ht.len] at hi hj
   rw[List.getD_eq_getElem?_getD,List.getD_eq_getElem?_getD,List.getElem?_eq_getElem hi,List.getElem?_eq_getElem hj] at z
   exact ye hd hi hj (by simpa using z))⟩
  obtain⟨r1,r2⟩:=zc hb zA
  have run:=kat_run (prog:=prog) (w:=w) (A:=A) (E:=E) (ks:=vs) (vs:=vs) (κ:=tuples' true) (Q:=fun st s'=>s'={s with heap:=((s.heap.update a (Obj.mapSeq fun _=>(#[]:Array Value))).push (seqObj "tuple" vs.toArray 0)).push (seqObj "list" #[] 0)}∧∃p,PN vs.length p∧Ri (fun i j=>cS (ks.getD i []) (ks.getD j [])) p vs.length∧(arrOf st).map (·.2)=List.toArray (p.toList.map fun i=>vs.getD i Value.none)∧failedOf st=none)
   (G:=fun p s'=>s'={s with heap:=((s.heap.update a (Obj.mapSeq fun _=>(#[]:Array Value))).push (seqObj "tuple" vs.toArray 0)).push (seqObj "list" #[] 0)}∧PN vs.length p∧Ri (fun i j=>cS (ks.getD i []) (ks.getD j [])) p vs.length) rfl zA F9
   (fun p jB s' a1 a2 a3 a4=>⟨a4.1,p,a4.2.1,a4.2.2,kat_snds rfl a2,a3⟩)
   (wp_run (s:={s with heap:=((s.heap.update a (Obj.mapSeq fun _=>(#[]:Array Value))).push (seqObj "tuple" vs.toArray 0)).push (seqObj "list" #[] 0)}) (fun i j C hi hj hC=>asked t3 i j C hi hj hC) (vi (by omega)) ⟨rfl,r1,r2⟩)
  refine wpAny_bind (wpAny_mono run ?_ fun _ _ e=>e)
  rintro⟨⟨⟩,jB⟩ s' ⟨rfl,p,a1,a2,a3,a4⟩
  exact fin jB p a1 a2 a3 a4
end
section
variable{prog:Program}{w:World}{A:Around}{E:Value→Shared→Prop}{s:Shared}
theorem vL{d:Addr}{od:Obj}{es:Array DictEntry}{ep:Nat}{Q:Value→Shared→Prop}(lo:(d==sysModules)=false)(ho:s.heap.get? d=some od)(hx:od.ExactDict)(hd:od.data= .dict es ep)
 (hQ:Q (.ref s.heap.objs.size) {s with heap:=s.heap.push {cls:= .type "dict_keyiterator",data:= .fields #[.ref d, .int 0 0, .int es.size 0, .int ep 0]} }):wpAny (model prog w) A (pyIter (.ref d)) Q E s:=by
 have hT:s.TypeIs (.ref d) "dict":=⟨od,ho,hx.1⟩
 refine wpAny_pyIter_slot hT F.slot_dict_iter (wpAny_call_entry F.slot_dict_iter hT F.entry_dict_iter ?_ (F.args_dict_iter_1 _))
 unfold Builtin.«dict.__iter__» Builtin.Dict.dictSlotNone
 refine wpAny_bind (wpAny_bind (wpAny_notOrdered_dict hT ?_))
 show wpAny _ _ (pure (Value.ref d)) _ _ s
 refine wpAny_pure ?_
 show wpAny _ _ (Builtin.Dict.showsAll d>>=_) _ _ s
 unfold Builtin.Dict.showsAll
 rw[if_neg (by rw[lo];exact Bool.false_ne_true)]
 refine wpAny_bind (wpAny_pure (wpAny_bind (wpAny_dictEntries ho hd (wpAny_bind (wpAny_dictEpoch ho hd ?_)))))
 refine wpAny_bind (wpAny_newObj_type (wpAny_pure ⟨_,rfl,"dict_keyiterator",_,⟨_,Heap.get?_push_size _ rfl,rfl⟩,F.slot_dict_keyiterator_next.lookup,?_⟩))
 simpa[rawInt] using hQ
theorem yb{it d:Addr}{od:Obj}{es:Array DictEntry}{i ep:Nat}{e:DictEntry}{Q:Option Value→Shared→Prop}(hit:s.heap.IsKeyIter it d i es.size ep)(E2:s.heap.get? d=some od)(zx:od.data= .dict es ep)(hx:es[i]? =some e)
 (hQ:∀h',h'.IsKeyIter it d (i+1) es.size ep→Heap.SameBut it s.heap h'→Q (some e.key) {s with heap:=h'}):wpAny (model prog w) A (pyNext (.ref it)) Q E s:=by
 obtain⟨o,ho,hc,hd⟩:=id hit
 have dz:i<es.size:=(Array.getElem?_eq_some_iff.mp hx).1
 have Co:Builtin.Dict_items.ownsTuple "dict_keyiterator"=false:=by decide
 unfold pyNext
 refine wpAny_bind (wpAny_attempt (wpAny_callSpecial?_slot (name:=Str.ofString "__next__") hit.typeIs F.slot_dict_keyiterator_next
  (wpAny_call_entry F.slot_dict_keyiterator_next hit.typeIs F.entry_dict_keyiterator_next ?_ (F.args_dict_keyiterator_next_1 _))))
 refine wpAny_bind (wpAny_pure (wpAny_bind (wpAny_bind ?_)))
 first | refine wpAny_bind (wpAny_typeNameOfWhole_keyiter hit.typeIs (wpAny_pure ?_)) | refine wpAny_bind (wpAny_typeNameOf_keyiter hit.typeIs (wpAny_pure ?_))
 refine wpAny_bind (wpAny_fieldsOf ho hd ?_)
 simp only[Co,Bool.false_eq_true,if_false]
 show wpAny _ _ (if (Value.ref d==Value.none)=true then _ else _) _ _ s
 rw[if_neg (show¬((Value.ref d==Value.none)=true) from Bool.false_ne_true)]
 refine wpAny_bind (wpAny_pure (wpAny_bind (wpAny_dictEntries E2 zx ?_)))
 rw[if_neg (by simp)]
 refine wpAny_bind (wpAny_pure (wpAny_bind (wpAny_dictEpoch E2 zx ?_)))
 rw[if_neg (by simp)]
 refine wpAny_pure ?_
 simp only[show¬((i:Int)<0) from by omega,if_false,Int.toNat_natCast,hx]
 refine wpAny_bind ?_
 first | refine wpAny_bind (wpAny_typeNameOfWhole_keyiter hit.typeIs (wpAny_pure ?_)) | refine wpAny_bind (wpAny_typeNameOf_keyiter hit.typeIs (wpAny_pure ?_))
 refine wpAny_bind (wpAny_isOneOf_keyiter hit.typeIs ?_)
 show wpAny _ _ (setField (.ref it) 1 (rawInt ((i:Int)+1))>>=_) _ _ s
 refine wpAny_bind (wpAny_setField ho hd (by simp) ?_)
 have zT:(s.heap.update it (Obj.mapFields (·.setIfInBounds 1 (rawInt ((i:Int)+1))))).IsKeyIter it d (i+1) es.size ep:=
  ⟨_,Heap.get?_update_self _ ho (Obj.isFreed_of_fields (Obj.data_mapFields hd _)),(Obj.cls_mapFields ..).trans hc,by rw[Obj.data_mapFields hd];simp[rawInt]⟩
 refine wpAny_bind (wpAny_holding (wpAny_bind (wpAny_isOneOf_keyiter (s:={s with heap:=s.heap.update it (Obj.mapFields (·.setIfInBounds 1 (rawInt ((i:Int)+1))))}) zT.typeIs ?_)))
 show wpAny _ _ (pure e.key) _ _ _
 exact wpAny_pure (wpAny_pure ⟨_,rfl,wpAny_pure (hQ _ zT (Heap.SameBut.update ..))⟩)
theorem vC{it d:Addr}{od:Obj}{es:Array DictEntry}{ep i:Nat}{Q:Option Value→Shared→Prop}(hh:A.handled=none)(hit:s.heap.IsKeyIter it d i es.size ep)(hi:es.size≤i)(E2:s.heap.get? d=some od)(zx:od.data= .dict es ep)
 (hQ:∀h',Heap.ExtBut it s.heap h'→Q none {s with heap:=h'}):wpAny (model prog w) A (pyNext (.ref it)) Q E s:=by
 obtain⟨o,ho,hc,hd⟩:=id hit
 have Co:Builtin.Dict_items.ownsTuple "dict_keyiterator"=false:=by decide
 unfold pyNext
 refine wpAny_bind (wpAny_attempt (wpAny_callSpecial?_slot (name:=Str.ofString "__next__") hit.typeIs F.slot_dict_keyiterator_next
  (wpAny_call_entry F.slot_dict_keyiterator_next hit.typeIs F.entry_dict_keyiterator_next ?_ (F.args_dict_keyiterator_next_1 _))))
 refine wpAny_bind (wpAny_pure (wpAny_bind (wpAny_bind ?_)))
 first | refine wpAny_bind (wpAny_typeNameOfWhole_keyiter hit.typeIs (wpAny_pure ?_)) | refine wpAny_bind (wpAny_typeNameOf_keyiter hit.typeIs (wpAny_pure ?_))
 refine wpAny_bind (wpAny_fieldsOf ho hd ?_)
 simp only[Co,Bool.false_eq_true,if_false]
 show wpAny _ _ (if (Value.ref d==Value.none)=true then _ else _) _ _ s
 rw[if_neg (show¬((Value.ref d==Value.none)=true) from Bool.false_ne_true)]
 refine wpAny_bind (wpAny_pure (wpAny_bind (wpAny_dictEntries E2 zx ?_)))
 rw[if_neg (by simp)]
 refine wpAny_bind (wpAny_pure (wpAny_bind (wpAny_dictEpoch E2 zx ?_)))
 rw[if_neg (by simp)]
 refine wpAny_pure ?_
 simp only[show¬((i:Int)<0) from by omega,if_false,Int.toNat_natCast,Array.getElem?_eq_none hi]
 refine wpAny_bind ?_
 first | refine wpAny_bind (wpAny_typeNameOfWhole_keyiter hit.typeIs (wpAny_pure ?_)) | refine wpAny_bind (wpAny_typeNameOf_keyiter hit.typeIs (wpAny_pure ?_))
 show wpAny _ _ (setField (.ref it) 0 .none>>=_) _ _ s
 refine wpAny_bind (wpAny_setField ho hd (by simp) ?_)
 show wpAny _ _ (newExc (.type "StopIteration") []>>=_) _ _ _
 refine wpAny_bind ?_
 simp only[newExc,newTuple]
 refine wpAny_bind (wpAny_newObj_type ?_ (by size_fits))
 refine wpAny_bind (m:=firstArgMember _ _) (wpAny_of_eq (a:=Value.none) (by first | rfl | (simp only[firstArgMember];rfl)) ?_)
 refine wpAny_newObj_type ?_ (by size_fits)
 simp only[raiseNew]
 refine wpAny_bind (wpAny_handled ?_)
 rw[show A.in1.handled=none from hh]
 refine wpAny_bind (wpAny_pure (wpAny_throw ?_))
 refine wpAny_bind (wpAny_isInstance (T:="StopIteration") (b:=true) ⟨_,Heap.get?_push_size _ rfl,rfl⟩ isSubtype_stop ?_)
 exact wpAny_pure (hQ _ (((Heap.SameBut.update ..).extBut.push _).push _))
end
end L3
namespace L3
open PySem
def insI(k:List Int):List (List Int)→List (List Int)
 |[]=>[k]
 |x::r=>if cS k x then k::x::r else x::insI k r
def sortI:List (List Int)→List (List Int)
 |[]=>[]
 |k::r=>insI k (sortI r)
def si(l:List (List Int)):Prop:=l.Pairwise fun a b=>cS a b=true
theorem lj{k x:List Int}:∀{l:List (List Int)},x∈insI k l↔x=k∨x∈l
 |[]=>by simp[insI]
 |y::r=>by
  unfold insI
  split
  ·simp
  ·rw[List.mem_cons,lj,List.mem_cons]
   constructor
   ·rintro(h | h | h)<;>simp[h]
   ·rintro(h | h | h)<;>simp[h]
theorem nA{k:List Int}:∀{l:List (List Int)},si l→k∉l→si (insI k l)
 |[],_,_=>List.pairwise_singleton _ _
 |x::r,h,hk=>by
  have h:=List.pairwise_cons.mp h
  unfold insI
  split
  ·rename_i q
   refine List.pairwise_cons.mpr ⟨fun y hy=>?_,List.pairwise_cons.mpr h⟩
   rcases List.mem_cons.mp hy with rfl | hy
   ·exact q
   ·exact o4 _ _ _ q (h.1 y hy)
  ·rename_i q
   have hx:cS x k=true:=by
    rcases lB k x (fun z=>hk (by rw[z];exact List.mem_cons_self ..)) with z | z
    ·exact absurd z q
    ·exact z
   refine List.pairwise_cons.mpr ⟨fun y hy=>?_,nA h.2 fun z=>hk (List.mem_cons_of_mem _ z)⟩
   rcases lj.mp hy with rfl | hy
   ·exact hx
   ·exact h.1 y hy
theorem cF{x:List Int}:∀{l:List (List Int)},x∈sortI l↔x∈l
 |[]=>Iff.rfl
 |k::r=>by unfold sortI;rw[lj,cF,List.mem_cons]
theorem dY:∀{l:List (List Int)},l.Nodup→si (sortI l)
 |[],_=>List.Pairwise.nil
 |k::r,h=>by
  have h:=List.nodup_cons.mp h
  exact nA (dY h.2) fun z=>h.1 (cF.mp z)
theorem iR:∀{a b:List (List Int)},si a→si b→(∀x,x∈a↔x∈b)→a=b
 |[],[],_,_,_=>rfl
 |[],y::b,_,_,h=>by have:=(h y).mpr (List.mem_cons_self ..);cases this
 |x::a,[],_,_,h=>by have:=(h x).mp (List.mem_cons_self ..);cases this
 |x::a,y::b,ha,hb,h=>by
  have ha:=List.pairwise_cons.mp ha
  have hb:=List.pairwise_cons.mp hb
  have e:x=y:=by
   rcases List.mem_cons.mp ((h x).mp (List.mem_cons_self ..)) with q | q
   ·exact q
   ·rcases List.mem_cons.mp ((h y).mpr (List.mem_cons_self ..)) with p | p
    ·exact p.symm
    ·have z1:=hb.1 x q
     have z2:=ha.1 y p
     rw[iE _ _ z1] at z2
     cases z2
  subst e
  have Jf:∀k,cS k k≠true:=fun k z=>by have:=iE _ _ z;rw[z] at this;cases this
  rw[iR ha.2 hb.2 fun z=>?_]
  constructor
  ·intro hz
   rcases List.mem_cons.mp ((h z).mp (List.mem_cons_of_mem _ hz)) with q | q
   ·subst q;exact absurd (ha.1 z hz) (Jf z)
   ·exact q
  ·intro hz
   rcases List.mem_cons.mp ((h z).mpr (List.mem_cons_of_mem _ hz)) with q | q
   ·subst q;exact absurd (hb.1 z hz) (Jf z)
   ·exact q
theorem tI:∀(n:Nat) (l:List Nat),l.Nodup→(∀x∈l,x<n)→l.length=n→∀k,k<n→k∈l
 |0,_,_,_,_,k,hk=>by omega
 |n+1,l,hd,hl,hn,k,hk=>by
  by_cases h:n∈l
  ·by_cases e:k=n
   ·subst e;exact h
   ·refine List.mem_of_mem_erase (tI n (l.erase n) (hd.erase n) (fun x hx=>?_) (by rw[List.length_erase_of_mem h,hn];rfl) k (by omega))
    have hx:=hd.mem_erase_iff.mp hx
    have:=hl x hx.2
    have:=hx.1
    omega
  ·cases l with
   |nil=>simp at hn
   |cons x r=>
    have hd:=List.nodup_cons.mp hd
    have lt:∀y∈x::r,y<n:=fun y hy=>by
     have:=hl y hy
     have:y≠n:=fun z=>h (by rw[←z];exact hy)
     omega
    exact absurd (tI n r hd.2 (fun y hy=>lt y (List.mem_cons_of_mem _ hy)) (by simpa using hn) x (lt x (List.mem_cons_self ..))) hd.1
theorem og{ks:List (List Int)}{p:Array Nat}(hd:ks.Nodup)(P:PN ks.length p)(R:Ri (fun i j=>cS (ks.getD i []) (ks.getD j [])) p ks.length):(p.toList.map fun i=>ks.getD i [])=sortI ks:=by
 have hsz:p.toList.length=ks.length:=by rw[Array.length_toList];exact P.sz
 have zv:∀i (h:i<p.toList.length),p.toList[i]=at' p i:=fun i h=>by
  have h':i<p.size:=by rw[Array.length_toList] at h;exact h
  rw[cV,Array.getElem?_eq_getElem h']
  simp
 refine iR ?_ (dY hd) fun x=>?_
 ·refine List.pairwise_iff_getElem.mpr fun i j hi hj uv=>?_
  rw[List.length_map] at hi hj
  rw[List.getElem_map,List.getElem_map,zv i hi,zv j hj]
  exact R i j uv (by omega)
 ·rw[cF]
  constructor
  ·intro hx
   obtain⟨i,hi,rfl⟩:=List.mem_map.mp hx
   obtain⟨j,hj,rfl⟩:=List.mem_iff_getElem.mp hi
   have:=P.lt j (by omega)
   rw[zv j hj,List.getD_eq_getElem?_getD,List.getElem?_eq_getElem this]
   exact List.getElem_mem this
  ·intro hx
   obtain⟨k,hk,rfl⟩:=List.mem_iff_getElem.mp hx
   have ux:k∈p.toList:=by
    have hn:p.toList.Nodup:=List.pairwise_iff_getElem.mpr fun i j hi hj uv z=>by
     rw[zv i hi,zv j hj] at z
     have:=P.inj i j (by omega) (by omega) z
     omega
    exact tI ks.length p.toList hn (fun x hx=>by
     obtain⟨j,hj,rfl⟩:=List.mem_iff_getElem.mp hx
     rw[zv j hj]
     exact P.lt j (by omega)) hsz k hk
   refine List.mem_map.mpr ⟨k,ux,?_⟩
   rw[List.getD_eq_getElem?_getD,List.getElem?_eq_getElem hk]
   rfl
end L3
namespace L3
open PySem PySem.Spec L2 SeqAt HT
open PyProof.Rows hiding St
def tupI(k:List Int):D:= .tup (k.map D.int)
def Bx:D→Option (List Int)
 | .tup ds=>nums ds
 |_=>none
def dP:List D→Option (List (List Int))
 |[]=>some []
 |d::ds=>match Bx d,dP ds with
  |some k,some ks=>some (k::ks)
  |_,_=>none
def dU(ks:List (List Int)):Bool:=decide ks.Nodup&&decide (ks.length<64)&&ks.all fun k=>!k.isEmpty
def zd:List D→M D
 |[.lst ds]=>match dP ds with
  |some ks=>if dU ks then M.ret (.lst ((sortI ks).map tupI)) else M.stuck
  |none=>M.stuck
 |_=>M.stuck
def bS(H:Hp):List V→List (List Int)→Prop:=Paired fun v k=>∃a,v= .ref a∧H a=some (.tup (k.map V.int))
theorem jc{K:W.Frag}{F H:Hp}(hs:Same F H):∀{ds:List D}{vs:List V}{ks:List (List Int)},dP ds=some ks→DenL K F ds vs→bS H vs ks∧bS F vs ks
 |[],_,_,e,h=>by cases e;cases (show _=_ from h);exact⟨.nil, .nil⟩
 |d::ds,_,_,e,⟨v,r,h1,h2,h3⟩=>by
  subst h1
  unfold dP at e
  split at e
  ·rename_i k ks e1 e2
   cases e
   obtain⟨Hw,Hx⟩:=jc hs e2 h3
   cases d with
   |tup es=>
    obtain⟨a,ws,rfl,k2,k3,_⟩:=h2
    have:=fP e1 k3
    subst this
    exact⟨.cons ⟨a,rfl,hs _ _ k2⟩ Hw, .cons ⟨a,rfl,k2⟩ Hx⟩
   |_=>cases e1
  ·cases e
theorem lX{K:W.Frag}{F:Hp}:∀{ws:List V}{ks:List (List Int)},bS F ws ks→(∀k∈ks,k.length≤lim)→DenL K F (ks.map tupI) ws
 |_,_, .nil,_=>rfl
 |_,_, .cons (b:=k) h t,hl=>by
  obtain⟨a,rfl,h⟩:=h
  exact .cons ⟨a,_,rfl,h,DenL.ints k,by rw[List.length_map];exact hl k (List.mem_cons_self ..)⟩ (lX t fun k hk=>hl k (List.mem_cons_of_mem _ hk))
theorem ju{X:Cx}{pins:List (Addr×Obj)}{σ:St}{H:Hp}{s:Shared}(I:Inv X pins σ H s):∀{vs:List V}{aA:List Value}{ks:List (List Int)},bS H vs ks→Vals vs aA→(∀k∈ks,k≠[])→TupsAt s.heap aA ks
 |_,_,_, .nil,r,_=>by cases r;exact trivial
 |_,_,_, .cons (b:=k) h t,r,hn=>by
  obtain⟨a,rfl,h⟩:=h
  cases r with
  |cons r1 r2=>
   cases (show _=_ from r1)
   obtain⟨us,ru,pt,_⟩:=I.tuple (SqT.of (K:=X.K) h)
   obtain⟨o,q1,q2,m,q3⟩:=pt
   exact⟨⟨a,o,us,m,rfl,q1,q2,q3,intsAre_of ru,hn k (List.mem_cons_self ..)⟩,ju I t r2 fun k hk=>hn k (List.mem_cons_of_mem _ hk)⟩
theorem iQ{H:Hp}:∀{vs:List V}{ks:List (List Int)}{i:Nat},bS H vs ks→i<vs.length→∃a,vs.getD i .non= .ref a∧H a=some (.tup ((ks.getD i []).map V.int))
 |_,_,i, .nil,hi=>by simp at hi
 |_,_,0, .cons h t,_=>h
 |_,_,i+1, .cons h t,hi=>iQ (i:=i) t (by simpa using hi)
theorem eG{H:Hp}:∀{vs:List V}{ks:List (List Int)},bS H vs ks→vs.length=ks.length
 |_,_, .nil=>rfl
 |_,_, .cons h t=>by rw[List.length_cons,List.length_cons,eG t]
theorem gD{H:Hp}{vs:List V}{ks:List (List Int)}(h:bS H vs ks):∀{is:List Nat},(∀i∈is,i<vs.length)→bS H (is.map fun i=>vs.getD i .non) (is.map fun i=>ks.getD i [])
 |[],_=> .nil
 |i::is,hi=> .cons (iQ h (hi i (List.mem_cons_self ..))) (gD h fun j hj=>hi j (List.mem_cons_of_mem _ hj))
theorem jF:∀{vs:List V}{us:List Value}(i:Nat),Vals vs us→i<vs.length→RelV (vs.getD i .non) (us.getD i Value.none)
 |_,_,i, .nil,hi=>by simp at hi
 |_,_,0, .cons h t,_=>h
 |_,_,i+1, .cons h t,hi=>jF i t (by simpa using hi)
theorem jG{vs:List V}{us:List Value}(h:Vals vs us):∀{is:List Nat},(∀i∈is,i<vs.length)→Vals (is.map fun i=>vs.getD i .non) (is.map fun i=>us.getD i Value.none)
 |[],_=> .nil
 |i::is,hi=> .cons (jF i h (hi i (List.mem_cons_self ..))) (jG h fun j hj=>hi j (List.mem_cons_of_mem _ hj))
def HS(K:W.Frag):List V→Hp→VK→Prop:=fun xs H Q=>∃p vs ks,xs=[.ref p]∧SqL K H p vs∧bS H vs ks∧dU ks=true∧∀(q:Addr) (is:List Nat),H q=none→(∀i∈is,i<vs.length)→is.length=vs.length→(is.map fun i=>ks.getD i [])=sortI ks→Q (.ref q) (upd H q (.lst (is.map fun i=>vs.getD i .non)))
section
variable{X:Cx}{Xw:Nat→Hp→Prop}{e:Expr}{δs:DA}{pos p:Pos}
theorem xf:CallR X (.builtin "sorted") (HS X.K):=by
 intro pins s σ H xs us Q I r h
 obtain⟨a,vs,ks,rfl,hq,hr,hk,q⟩:=h
 obtain⟨u,rfl,r1⟩:=r.one
 cases (show u=_ from r1)
 obtain⟨aA,rv,pl,hz⟩:=I.list hq
 unfold dU at hk
 rw[Bool.and_eq_true,Bool.and_eq_true] at hk
 have hd:ks.Nodup:=of_decide_eq_true hk.1.1
 have F9:ks.length<64:=of_decide_eq_true hk.1.2
 have mx:∀k∈ks,k≠[]:=fun k uw z=>by have:=List.all_eq_true.mp hk.2 k uw;rw[z] at this;cases this
 have zy:=eG hr
 have zA:=rv.length
 have wO:sizeLine=16777216:=sizeLine_eq
 have ht:=ju I hr rv mx
 refine Calls.call_function_entry kind_sorted plain_sorted entry_sorted (args_sorted1 _) ?_
 unfold Builtin.«sorted»
 refine wpAny_bind (m:=checkCount "sorted" 1 1 _) (wpAny_pure (wpAny_bind (collect_list pl.isList (wpAny_bind (wpAny_newList ?_ (by rw[wO];omega))) (by rw[wO];omega))))
 have hsz:((s.heap.push (seqObj "list" #[] 0)).update s.heap.objs.size (Obj.mapSeq (· ++aA.toArray))).objs.size=s.heap.objs.size+1:=by rw[Heap.size_update,size_push']
 have keep:∀b o,s.heap.get? b=some o→(((s.heap.push (seqObj "list" #[] 0)).update s.heap.objs.size (Obj.mapSeq (· ++aA.toArray))).push (seqObj "list" aA.toArray 0)).get? b=some o:=fun b o e=>by
  have dz:=Heap.lt_size e
  exact Heap.get?_push_of_some _ ((Heap.get?_update_ne _ _ _ _ (Nat.ne_of_lt dz)).trans (Heap.get?_push_of_some _ e))
 have Cm:(((s.heap.push (seqObj "list" #[] 0)).update s.heap.objs.size (Obj.mapSeq (· ++aA.toArray))).push (seqObj "list" aA.toArray 0)).get? (s.heap.objs.size+1)=some (seqObj "list" aA.toArray 0):=by
  rw[←hsz];exact Heap.get?_push_size _ rfl
 show wpAny _ _ _ _ _ {s with heap:=((s.heap.push (seqObj "list" #[] 0)).update s.heap.objs.size (Obj.mapSeq (· ++aA.toArray))).push (seqObj "list" aA.toArray 0)}
 rw[hsz]
 refine wpAny_bind (wpAny_holding (wpAny_call_entry slot_list_sort ⟨_,Cm,rfl⟩ entry_list_sort (oe (s:={s with heap:=((s.heap.push (seqObj "list" #[] 0)).update s.heap.objs.size (Obj.mapSeq (· ++aA.toArray))).push (seqObj "list" aA.toArray 0)}) Cm
  (ht.keep (a:=s.heap.objs.size) (fun b o _ e=>keep b o e) (fun o e=>absurd (Heap.lt_size e) (Nat.lt_irrefl _))) hd (by omega) fun P h' c' hP hR xG xJ=>?_) (args_list_sort _)))
 have ED:∀i∈P.toList,i<vs.length:=fun i hi=>by
  obtain⟨j,hj,rfl⟩:=List.mem_iff_getElem.mp hi
  have h':j<P.size:=by rw[Array.length_toList] at hj;exact hj
  have:=hP.lt j (by rw[hP.sz] at h';exact h')
  rw[cV,Array.getElem?_eq_getElem h'] at this
  have e:P.toList[j]=P[j]:=by simp
  rw[e]
  have:P[j]<aA.length:=this
  omega
 have GQ:PN ks.length P:=by rw[←zy,zA];exact hP
 have GR:Ri (fun i j=>cS (ks.getD i []) (ks.getD j [])) P ks.length:=by rw[←zy,zA];exact hR
 have Hl:=og hd GQ GR
 have B_:H (s.heap.objs.size+1)=none:=I.hok.fresh (Nat.le_succ _)
 refine⟨_,rfl,wpAny_pure ⟨_,rfl,⟨.ref (s.heap.objs.size+1),_,I.laid (a:=s.heap.objs.size+1) (t':=s.toks) (o:= .lst (P.toList.map fun i=>vs.getD i .non)) (fun b ob e=>xJ b ob (Nat.ne_of_lt (Nat.lt_succ_of_lt (Heap.lt_size e))) (keep b ob e)) (Nat.le_succ _) ?_,rfl,q _ P.toList B_ ED (by rw[Array.length_toList,hP.sz];omega) Hl⟩⟩⟩
 exact⟨by rw[List.length_map,Array.length_toList,hP.sz,wO];omega,_,c',jG rv ED,xG⟩
theorem jd{K:W.Frag}{F:Hp}:∀{ds:List D}{vs:List V}{ks:List (List Int)},dP ds=some ks→DenL K F ds vs→∀k∈ks,k.length≤lim
 |[],_,_,e,_=>by cases e;exact fun k hk=>by cases hk
 |d::ds,_,_,e,⟨v,r,h1,h2,h3⟩=>by
  unfold dP at e
  split at e
  ·rename_i k ks e1 e2
   cases e
   intro k' uw
   rcases List.mem_cons.mp uw with rfl | uw
   ·cases d with
    |tup es=>
     obtain⟨a,ws,rfl,k2,k3,k4⟩:=h2
     have:=fP e1 k3
     have hl:=k3.len
     rw[this,List.length_map] at hl
     omega
    |_=>cases e1
   ·exact jd e2 h3 k' uw
  ·cases e
theorem jA:∀l:List (List Int),(sortI l).length=l.length
 |[]=>rfl
 |k::r=>by
  have ins:∀(k:List Int) (l:List (List Int)),(insI k l).length=l.length+1:=by
   intro k l
   induction l with
   |nil=>rfl
   |cons x l ih=>
    unfold insI
    split
    ·rfl
    ·rw[List.length_cons,ih,List.length_cons]
  unfold sortI
  rw[ins,jA r,List.length_cons]
theorem C_(hg:Gl X "sorted")(hm:X.mg "sorted"=none)(hb:bootBuiltins "sorted"=some (.builtin "sorted"))(ha:ko X Xw [e] δs)(he:starEach [e] X.env=[(false,eval e X.env)]:=by rfl):PD X Xw (.Call (.Name "sorted" p) [e] [] pos) (dA zd δs):=
 dg xf (fun Xw F H vs ds Q s h w=>by
  unfold zd at w
  split at w
  ·rename_i ds
   obtain⟨v,rfl,h1⟩:=h.one
   obtain⟨a,ws,rfl,h2,h3,h4⟩:=h1
   split at w
   ·rename_i ks ET
    split at w
    ·rename_i hok
     obtain⟨r1,r2⟩:=jc s ET h3
     have Kj:=jd ET h3
     refine⟨a,ws,ks,rfl,SqL.of (s _ _ h2),r1,hok,fun q is hq hi hl hs=>WP.fin w (Ext.lay s hq) ⟨q,_,rfl,aD,DenL.mono (Ext.lay s hq).ff ?_,?_⟩⟩
     ·have:=gD r2 hi
      rw[hs] at this
      exact lX this fun k hk=>Kj k (cF.mp hk)
     ·rw[List.length_map,jA,←eG r1,←h3.len]
      exact h4
    ·exact w.elim
   ·exact w.elim
  ·exact w.elim) hg hm hb ha (by decide) (by decide) he rfl
end
section
variable{X:Cx}{Xw:Nat→Hp→Prop}{e:Expr}{δs:DA}{pos p:Pos}
theorem n8{F F':Hp}(e:Same F F'):∀{ws:List V}{ks:List (List Int)},bS F ws ks→bS F' ws ks
 |_,_, .nil=> .nil
 |_,_, .cons ⟨b,q1,q2⟩ t=> .cons ⟨b,q1,e _ _ q2⟩ (n8 e t)
theorem rB{F H:Hp}(hs:Same F H):∀{ws:List V}{ks:List (List Int)},bS H ws ks→∃F',Ext F H F' H∧bS F' ws ks
 |_,_, .nil=>⟨F,Ext.refl hs, .nil⟩
 |_,_, .cons h t=>by
  obtain⟨a,rfl,h⟩:=h
  obtain⟨F1,e1,r1⟩:=rB hs t
  have e2:=Ext.tup (F:=F1) e1.fh h
  refine⟨_,e1.trans e2, .cons ⟨a,rfl,aD⟩ ?_⟩
  exact n8 e2.ff r1
theorem p7{α β:Type}:∀{a:List α}{b:List β},a.length=b.length→(a.zip b).map (·.1)=a
 |[],[],_=>rfl
 |x::a,y::b,h=>by rw[List.zip_cons_cons,List.map_cons,p7 (by simpa using h)]
 |[],_::_,h=>by simp at h
 |_::_,[],h=>by simp at h
end
end L3
namespace L3
open PySem PySem.Spec L2
open PyProof.Rows hiding St
def orM{α:Type}(a b:M α):M α:=match a with
 |none=>b
 |some r=>some r
def Cs(a b:DA):DA:=fun ρ=>orM (a ρ) (b ρ)
section
variable{X:Cx}{Xw:Nat→Hp→Prop}{e tg:Expr}{es:List Expr}{δ δ':DE}{δi δi' δs:DA}{τ:DT}
theorem Au(h:t_ X Xw tg e δi)(h':t_ X Xw tg e δi'):t_ X Xw tg e (Cs δi δi'):=fun pins s σ H Q I ⟨F,ρ,S,w⟩=>by
 unfold Cs orM at w
 cases q:δi ρ with
 |none=>rw[q] at w;exact h' pins s σ H Q I ⟨F,ρ,S,w⟩
 |some r=>rw[q] at w;exact h pins s σ H Q I ⟨F,ρ,S,by rw[q];exact w⟩
theorem dF{st:Stmt}:g0 X Xw st (fun _=>M.stuck):=fun F₀ H₀ pins s σ H D I ⟨F,ρ,S,w⟩=>w.elim
end
def fgt:List Nat→aY→aY
 |[],ρ=>ρ
 |i::is,ρ=>fgt is (ρ.set i none)
def Fp(f:aY→aY):Out→M Out
 | .nx ρ=>M.ret (.nx (f ρ))
 | .rt d=>M.ret (.rt d)
def fc(is:List Nat)(τ:DS):DS:=fun ρ=>τ ρ>>=Fp (fgt is)
theorem StOk.fgt1{K:W.Frag}{F₀ H₀ F H:Hp}{σ:St}{ρ:aY}(s:StOk K F₀ H₀ F H σ ρ)(i:Nat):StOk K F₀ H₀ F H σ (ρ.set i none):=by
 have get:∀(j:Nat) (sl:Sl),(ρ.set i none)[j]? =some (some sl)→ρ[j]? =some (some sl):=fun j sl e=>by
  by_cases hj:j=i
  ·subst hj
   by_cases hl:j<ρ.length
   ·rw[List.getElem?_set_self hl] at e;cases e
   ·rw[List.getElem?_eq_none (by simpa using hl)] at e;cases e
  ·rw[List.getElem?_set_ne (Ne.symm hj)] at e;exact e
 exact⟨s.ext,⟨s.st.fh,fun j sl e=>s.st.den j sl (get j sl e)⟩,by simp[s.len],fun j c a e e'=>s.own j c a (get j _ e) e',fun j k c c' a e1 e2 e3 e4=>s.sep j k c c' a (get j _ e1) (get k _ e2) e3 e4⟩
theorem StOk.fgt{K:W.Frag}{F₀ H₀ F H:Hp}{σ:St}:∀(is:List Nat) {ρ:aY},StOk K F₀ H₀ F H σ ρ→StOk K F₀ H₀ F H σ (L3.fgt is ρ)
 |[],_,s=>s
 |i::is,_,s=>StOk.fgt is (s.fgt1 i)
theorem WPS.fgt{K:W.Frag}{Xw:Nat→Hp→Prop}{F₀ H₀:Hp}{is:List Nat}{m:M Out}{Dn:Ends}(w:WPS K Xw F₀ H₀ (m>>=Fp (L3.fgt is)) Dn):WPS K Xw F₀ H₀ m Dn:=by
 match m,w with
 |none,w=>exact w
 |some (.ok (.nx ρ)),w=>exact fun σ F H s=>w σ F H (s.fgt is)
 |some (.ok (.rt d)),w=>exact w
 |some (.ex n),w=>exact w
section
variable{X:Cx}{Xw:Nat→Hp→Prop}{st:Stmt}{Jq:List Stmt}{τ:DS}{is:List Nat}
theorem di(h:PSDs X Xw Jq τ):PSDs X Xw Jq (fc is τ):=fun F₀ H₀=>PSs.weak (h F₀ H₀) fun D σ H ⟨F,ρ,s,w⟩=>⟨F,ρ,s,WPS.fgt w⟩
end
def iP(h:Heap)(P:Addr→Prop)[DecidablePred P](H:Hp):Hp:=fun b=>if P b then(H b).map (oQ ((h.get? b).getD {cls:= .none,data:= .fields #[]})) else H b
section
variable{X:Cx}{pins:List (Addr×Obj)}{σ:St}{H:Hp}{s:Shared}{P:Addr→Prop}[DecidablePred P]
def Ii(P:Addr→Prop)[DecidablePred P](H:Hp):Hp:=fun b=>if P b then(match H b with | some (.frz _ u)=>some u | x=>x) else H b
end
mutual
def Bo:D→Bool
 | .non=>true
 | .bl _=>true
 | .int _=>true
 | .str _=>true
 | .tup ds=>ur ds
 | .raw _=>false
 | .exc _=>false
 | .scr _=>false
 | .lst _=>false
 | .dct _ _=>false
 | .dci _ _=>false
def ur:List D→Bool
 |[]=>true
 |d::ds=>Bo d&&ur ds
end
def OwnAt(σ:St)(ρ:aY)(b:Addr):Prop:=∃(i:Nat) (c:C),ρ[i]? =some (some (Sl.ow c))∧σ[i]? =some (some (V.ref b))
section
variable{K:W.Frag}{F H F' H':Hp}{σ:St}{ρ:aY}{h:Heap}{b:Addr}
theorem OwnAt.obj(S:StE K F H σ ρ)(p:OwnAt σ ρ b):F b=none∧∃o,H b=some o∧((∃x,o= .lst x)∨(∃x,o= .dT x)∨∃x,o= .dK x):=by
 obtain⟨i,c,h1,h2⟩:=p
 obtain⟨v,h3,a,o,rfl,h4,h5,h6⟩:=S.den i _ h1
 rw[h3] at h2
 cases h2
 refine⟨h5,o,h4,?_⟩
 cases c with
 |lst ds=>obtain⟨vs,rfl,_⟩:=h6;exact .inl ⟨_,rfl⟩
 |dct ks ds=>obtain⟨vs,rfl,_⟩:=h6;exact .inr (.inl ⟨_,rfl⟩)
 |dci ks ds=>obtain⟨vs,rfl,_⟩:=h6;exact .inr (.inr ⟨_,rfl⟩)
open Classical in
noncomputable def fA(σ:St)(ρ:aY)(H1 F:Hp):Hp:=fun b=>if OwnAt σ ρ b then H1 b else F b
open Classical in
mutual
theorem xt(S:StE K F H σ ρ)(E:Ext (fA σ ρ (iP h (OwnAt σ ρ) H) F) (iP h (OwnAt σ ρ) H) F' H'):∀{d:D}{v:V},Bo d=true→Den K F' d v→Den K (fun b=>if OwnAt σ ρ b then none else F' b) d v
 | .non,_,_,q=>q
 | .bl _,_,_,q=>q
 | .int _,_,_,q=>q
 | .str _,_,_,q=>q
 | .tup ds,_,f,⟨a,vs,h1,h2,h3,h4⟩=>by
   refine⟨a,vs,h1,?_,nq S E ?_ h3,h4⟩
   ·show (if OwnAt σ ρ a then none else F' a)=_
    rw[if_neg,h2]
    intro hp
    obtain⟨_,o,k1,k2⟩:=OwnAt.obj S hp
    have k3:fA σ ρ (iP h (OwnAt σ ρ) H) F a=some (oQ ((h.get? a).getD {cls:= .none,data:= .fields #[]}) o):=by
     unfold fA iP
     rw[if_pos hp,if_pos hp,k1]
     rfl
    have k4:=E.ff a _ k3
    rw[h2] at k4
    rcases k2 with⟨x,rfl⟩ | ⟨x,rfl⟩ | ⟨x,rfl⟩<;>cases k4
   ·exact f
 | .raw _,_,f,_=>by cases f
 | .exc _,_,f,_=>by cases f
 | .scr _,_,f,_=>by cases f
 | .lst _,_,f,_=>by cases f
 | .dct _ _,_,f,_=>by cases f
 | .dci _ _,_,f,_=>by cases f
theorem nq(S:StE K F H σ ρ)(E:Ext (fA σ ρ (iP h (OwnAt σ ρ) H) F) (iP h (OwnAt σ ρ) H) F' H'):∀{ds:List D}{vs:List V},ur ds=true→DenL K F' ds vs→DenL K (fun b=>if OwnAt σ ρ b then none else F' b) ds vs
 |[],_,_,q=>q
 |d::ds,_,f,⟨v,r,h1,h2,h3⟩=>by
  unfold ur at f
  rw[Bool.and_eq_true] at f
  exact⟨v,r,h1,xt S E f.1 h2,nq S E f.2 h3⟩
end
end
section
variable{X:Cx}{Xw:Nat→Hp→Prop}{e:Expr}{δ:DE}{τ:DT}
end
abbrev DF:=aY→M C
def WPF(K:W.Frag)(Xw:Nat→Hp→Prop)(F H:Hp)(m:M C)(Q:VK):Prop:=
 match m with
 |none=>False
 |some (.ok c)=>∀a o H' F',Ext F H F' H'→H' a=some o→F' a=none→H a=none→DenC K F' c o→Q (.ref a) H'
 |some (.ex n)=>∀F' H',Ext F H F' H'→Xw n H'
def KQ(K:W.Frag)(Xw:Nat→Hp→Prop)(δ:DF):TE:=fun σ H Q=>∃F ρ,StE K F H σ ρ∧WPF K Xw F H (δ ρ) Q
def Jz(X:Cx)(Xw:Nat→Hp→Prop)(e:Expr)(δ:DF):Prop:=PE X e (KQ X.K Xw δ)
theorem WPF.mono{K:W.Frag}{Xw:Nat→Hp→Prop}{F H:Hp}{m:M C}{Q Q':VK}(h:WPF K Xw F H m Q)(k:∀v H',Q v H'→Q' v H'):WPF K Xw F H m Q':=by
 match m,h with
 |none,h=>exact h
 |some (.ok d),h=>exact fun a o H' F' e h1 h2 h3 h4=>k _ _ (h a o H' F' e h1 h2 h3 h4)
 |some (.ex n),h=>exact h
theorem WPF.ext{K:W.Frag}{Xw:Nat→Hp→Prop}{F H F1 H1:Hp}{m:M C}{Q:VK}(e:Ext F H F1 H1)(h:WPF K Xw F H m Q):WPF K Xw F1 H1 m Q:=by
 match m,h with
 |none,h=>exact h
 |some (.ok d),h=>exact fun a o H' F' e' h1 h2 h3 h4=>h a o H' F' (e.trans e') h1 h2 (Same.free e.hh h3) h4
 |some (.ex n),h=>exact fun F2 H2 e2=>h F2 H2 (e.trans e2)
theorem WPF.bind{K:W.Frag}{Xw:Nat→Hp→Prop}{F H:Hp}{m:M D}{k:D→M C}{Q:VK}(h:WPF K Xw F H (m>>=k) Q):WP K Xw F H m fun v H1=>∃F1 d,Ext F H F1 H1∧Den K F1 d v∧WPF K Xw F1 H1 (k d) Q:=by
 match m,h with
 |none,h=>exact h
 |some (.ok d),h=>exact fun v H2 F2 e2 q=>⟨F2,d,e2,q,WPF.ext e2 (show WPF K Xw F H (k d) Q from h)⟩
 |some (.ex n),h=>exact h
section
variable{X:Cx}{Xw:Nat→Hp→Prop}{e k v a b:Expr}{es:List Expr}{δ δ':DF}{δk δv δa δb:DE}{δs:DA}{pos pos' p:Pos}{x:Str}{i:Nat}
theorem Ext.fresh{F H:Hp}{p:Addr}{o:HO}(s:Same F H)(hp:H p=none):Ext F H F (upd H p o)∧F p=none:=⟨Ext.free s hp,Same.free s hp⟩
theorem Er{pins:List (Addr×Obj)}{σ:St}{H H':Hp}{s:Shared}{a:Addr}{y v:V}{u r:Value}{A:Around}{E:Value→Shared→Prop}{Q:Unit→Shared→Prop}(hu:A.units+1<cLine)(I:Inv X pins σ H s)(g:DPut H a y v H')(ry:RelV y u)(rv:RelV v r)(h:∀s',Inv X pins σ H' s'→Q () s'):
 wpAny (model X.prog X.w) A (dictSet a u r) Q E s:=by
 rcases g with⟨ay,k,e,ey,l,eH⟩ | ⟨ay,k,b,e,ey,eb,l,eH⟩
 ·subst ey eH
  obtain⟨z,hd,vs,rel,dd⟩:=Bg I.hok e
  have hz:vs.length≤sizeLine:=by rw[←rel.length];exact z
  have hl:(putK ay k v).length≤sizeLine:=by have:=d8 ay k v;omega
  refine wpAny_dictSet_pairs (hsz:=hz) (uE ry) dd fun h' zL hs=>h _ ?_
  have he:∃q,h'.get? a=some q:=let ⟨q,_,_,hq,_⟩:=zL;⟨q,hq⟩
  exact kB I (by rw[e];exact True.intro) hs he (xo hl hd (rel.put k rv) zL)
 ·subst ey eH
  cases (show u=Value.ref b from ry)
  obtain⟨z,hd,xs,rel,dd⟩:=Bi I.hok e
  have hz:xs.length≤sizeLine:=by rw[←Paired.length rel];exact z
  have hl:(putK ay k v).length≤sizeLine:=by have:=d8 ay k v;omega
  refine wpAny_dictSet_heap (knd:=tupleKind (bA X.prog X.w)) (hsz:=hz) (by exact(show A.units<cLine by omega)) (oZ I.hok eb) dd fun h' zL hs=>h _ ?_
  obtain⟨q,es,ep,hq,h2,h3,h4,_,h5⟩:=zL
  refine kB I (by rw[e];exact True.intro) hs ⟨q,hq⟩ ⟨hl,hd,_,(rel.put k eb rv).keeps fun c ys ec=>?_,q,es,ep,hq,h2,h3,h4,h5⟩
  rw[aw (BC ec e (fun z=>nomatch z))]
  exact ec
end
section
variable{X:Cx}{Xw:Nat→Hp→Prop}{e k v a b:Expr}{es:List Expr}{δk δv δa δb:DE}{δs:DA}{pos pos' p:Pos}{x:Str}{i:Nat}
theorem xn{o0:HO}{put:Hp→Addr→V→V→Hp→Prop}(hu:X.A.units+1<cLine)(h0:∀(H:Hp) (h:Heap),sysModules<h.objs.size→ObjOk X.prog X.w H (h.push {cls:= .type "dict",data:= .dict #[]}) h.objs.size o0){tk tv:TE}(hk:PE X k tk)(hv:PE X v tv):
 PE X (.Dict [some k] [v] pos) (fun σ H Q=>∀p,H p=none→tk σ (upd H p o0) fun y H1=>tv σ H1 fun z H2=>∃H3,DPut H2 p y z H3∧Q (.ref p) H3):=by
 intro pins s σ H Q I q
 have hn:=I.hok.fresh (Nat.le_refl s.heap.objs.size)
 have I1:=I.laid (a:=s.heap.objs.size) (o:=o0) (h':=s.heap.push {cls:= .type "dict",data:= .dict #[]}) (t':=s.toks) (fun _ _ q=>Heap.get?_push_of_some _ q) (Nat.le_refl _) (h0 _ s.heap I.big)
 refine wpAny_Dict_any rfl rfl (by simp) (by simp) (bI (yI hk hv AG pins _ σ _ (fun ps H2=>∃y z H3,ps=[(y,z)]∧DPut H2 s.heap.objs.size y z H3∧Q (.ref s.heap.objs.size) H3) I1 ?_) fun ws s2 ⟨ps,H2,I2,rel,y,z,H3,ep,g,q2⟩=>?_)
 ·refine ?_
  have:=q _ hn
  show tk σ _ fun y H1=>tv σ H1 fun z H2=>∃y' z' H3,[(y,z)]=[(y',z')]∧DPut H2 s.heap.objs.size y' z' H3∧Q (.ref s.heap.objs.size) H3
  have e:(fun (y:V) (H1:Hp)=>tv σ H1 fun z H2=>∃y' z' H3,[(y,z)]=[(y',z')]∧DPut H2 s.heap.objs.size y' z' H3∧Q (.ref s.heap.objs.size) H3)=(fun y H1=>tv σ H1 fun z H2=>∃H3,DPut H2 s.heap.objs.size y z H3∧Q (.ref s.heap.objs.size) H3):=by
   funext y H1
   congr 1
   funext z H2
   refine propext ⟨fun ⟨y',z',H3,ee,r⟩=>?_,fun⟨H3,r⟩=>⟨y,z,H3,rfl,r⟩⟩
   cases ee
   exact⟨H3,r⟩
  rw[e]
  exact this
 ·subst ep
  cases rel with
  | @cons a b as bs h t=>
    cases t
    obtain⟨r1,r2⟩:=h
    unfold storeAll
    rw[List.forIn_cons]
    refine wpAny_bind (wpAny_bind (Er hu I2 g r1 r2 fun s3 I3=>?_))
    refine wpAny_pure ?_
    show wpAny _ _ (forIn ([]:List (Value×Value)) PUnit.unit _) _ _ _
    rw[List.forIn_nil]
    exact wpAny_pure ⟨V.ref s.heap.objs.size,_,I3,rfl,q2⟩
def qu(k v:D):M C:=match dQ k with
 |some kk=>M.ret (.dct [kk] [v])
 |none=>M.stuck
theorem D4(hu:X.A.units+64<cLine)(hk:PD X Xw k δk)(hv:PD X Xw v δv):Jz X Xw (.Dict [some k] [v] pos) (fun ρ=>δk ρ>>=fun x=>δv ρ>>=fun y=>qu x y):=
 PE.weak (xn (o0:= .dT []) (put:=DPut) (by omega) (fun H h hb=>qw h hb) hk hv) fun σ H Q ⟨F,ρ,s,w⟩ q hq=>by
  have e0:=Ext.free (o:= .dT []) s.fh hq
  refine⟨F,ρ,s.ext e0,?_⟩
  have w:WPF X.K Xw F H (δk ρ>>=fun x=>δv ρ>>=fun y=>qu x y) Q:=w
  match uw:δk ρ,w with
  |none,w=>exact w
  |some (.ex n),w=>exact fun F' H' e'=>w F' H' (e0.trans e')
  |some (.ok kd),w=>
   intro y H1 F1 e1 q1
   refine⟨F1,ρ,(s.ext e0).ext e1,?_⟩
   have w:WPF X.K Xw F H (δv ρ>>=fun y=>qu kd y) Q:=w
   match Lg:δv ρ,w with
   |none,w=>exact w
   |some (.ex n),w=>exact fun F' H' e'=>w F' H' (e0.trans (e1.trans e'))
   |some (.ok vd),w=>
    intro z H2 F2 e2 q2
    have w3:WPF X.K Xw F H (qu kd vd) Q:=w
    clear w
    unfold qu at w3
    cases Cb:dQ kd with
    |none=>rw[Cb] at w3;exact w3.elim
    |some kk=>
     rw[Cb] at w3
     have E:=e1.trans e2
     have Kn:H2 q=some (.dT []):=E.hh _ _ aD
     have IC:F2 q=none:=by
      have:=E.old (a:=q) (o:= .dT []) aD (fun _ z=>nomatch z)
      rw[this]
      exact Same.free s.fh hq
     unfold dQ at Cb
     split at Cb
     ·rename_i es
      obtain⟨b,ws,rfl,k2,k3,_⟩:=Den.mono e2.ff q1
      have e5:=fQ Cb k3
      subst e5
      refine⟨_,DPut.t (k:=kk) Kn (e2.fh _ _ k2) (by rw[sizeLine_eq];decide),?_⟩
      refine w3 q (.dT (putK [] kk z)) _ F2 ⟨fun c u hc=>?_,(e0.trans E).ff,fun c u hc=>?_,(e0.trans E).new⟩ aD IC hq ⟨[z],rfl, .cons q2 .nil,rfl,show 1≤lim by decide⟩
      ·rw[aw (fun zz=>by rw[zz,hq] at hc;cases hc)]
       exact(e0.trans E).hh c u hc
      ·rw[aw (fun zz=>by rw[zz,IC] at hc;cases hc)]
       exact e2.fh c u hc
     ·cases Cb
theorem zF{K:W.Frag}{F H:Hp}{d k:D}{x y:V}{o:Option D}(s:Same F H)(hd:Den K F d x)(hk:Den K F k y)(e:Ba d k=some o):
 ∃a ov,x= .ref a∧vf H a y ov∧ov.isSome=o.isSome∧∀d',o=some d'→∃v,ov=some v∧Den K F d' v:=by
 obtain⟨a,ov,h1,h2,h3,h4⟩:=ue (σ:=[some x]) (ρ:=[some (.fz d)]) (i:=0) (H:=H) ⟨s,fun i sl q=>by
  match i,q with
  |0,q=>cases q;exact⟨x,rfl,hd⟩
  |i+1,q=>simp at q⟩ rfl hk e
 cases h1
 exact⟨a,ov,rfl,h2,h3,h4⟩
def mI(neg:Bool)(k d:D):M D:=match Ba d k with
 |some o=>M.ret (.bl (if neg then !o.isSome else o.isSome))
 |none=>M.stuck
def FE(neg:Bool):R2:=fun y x H Q=>∃a o,x= .ref a∧vf H a y o∧Q (.bl (if neg then !o.isSome else o.isSome)) H
theorem CV(hu:X.A.units+64<cLine):OpR X (compareOp .In) (FE false):=fun pins s σ H y x v u Q I ry rx ⟨a,o,ex,g,q⟩=>by
 subst ex
 obtain rfl:u=Value.ref a:=rx
 exact Ep (by omega) I g ry fun s' I'=>⟨.bl o.isSome,_,I',rfl,q⟩
theorem Aj{K:W.Frag}{neg:Bool}:se K (FE neg) (mI neg):=fun Xw F H y x dk dd Q s hk hd w=>by
 unfold mI at w
 cases he:Ba dd dk with
 |none=>rw[he] at w;exact w.elim
 |some o=>
  rw[he] at w
  obtain⟨a,ov,h1,h2,h3,_⟩:=zF s hd hk he
  refine⟨a,ov,h1,h2,?_⟩
  rw[h3]
  exact WP.now w s rfl
theorem Ds(hu:X.A.units+64<cLine)(ha:PD X Xw a δa)(hb:PD X Xw b δb)(hm:behindInMarks .In b=false:=by rfl):m7 X Xw (.Compare a [.In] [b] pos) (b_ (d2 (mI false) δa δb)):=e_ (CV hu) Aj ha hb hm
end
section
variable{X:Cx}{pins:List (Addr×Obj)}{σ:St}{H:Hp}{s:Shared}{h':Heap}
end
section
variable{X:Cx}{Xw:Nat→Hp→Prop}{tg e:Expr}{es:List Expr}{δ δi:DE}{δs:DA}{pos p tp:Pos}{x1:Nat}
end
def z8:Key→D
 | .inl i=> .int i
 | .inr x=> .str x
def A8(H:Hp)(d:Addr)(od:Obj)(i:Nat)(x:V):Prop:=
 (∃ay k b,H d=some (.frz od (.dT ay))∧(ay.map (·.1))[i]? =some k∧x= .ref b∧H b=some (.tup (k.map kV)))∨
 ∃ay k,H d=some (.frz od (.dK ay))∧(ay.map (·.1))[i]? =some k∧x=kV k
def Ij(d:Addr)(od:Obj):It:=
 ⟨fun i H=>(∃ay,H d=some (.frz od (.dT ay))∧i<ay.length)∨∃ay,H d=some (.frz od (.dK ay))∧i<ay.length,fun i H x H'=>H'=H∧A8 H d od i x,
  fun i H=>(∃ay,H d=some (.frz od (.dT ay))∧ay.length≤i)∨∃ay,H d=some (.frz od (.dK ay))∧ay.length≤i⟩
theorem g_{α β:Type}{R:α→β→Prop}:∀{l:List α}{m:List β}{i:Nat}{a:α},Paired R l m→l[i]? =some a→∃b,m[i]? =some b∧R a b
 |_,_,i,_, .nil,e=>by simp at e
 |_,_,0,_, .cons r t,e=>by simp at e;subst e;exact⟨_,rfl,r⟩
 |_,_,i+1,_, .cons r t,e=>by
  obtain⟨b,e1,e2⟩:=g_ (i:=i) t (by simpa using e)
  exact⟨b,by simpa using e1,e2⟩
theorem we{prog:Program}{w:World}{κ:Type}[DecidableEq κ]{knd:KeyKind prog w κ}:∀{es:List DictEntry}{ay:List (κ×Value)}{i:Nat}{kv:κ×Value},Pairs knd es ay→ay[i]? =some kv→∃e,es[i]? =some e∧knd.is kv.1 e.key=true:=by
 intro es ay i kv h e
 induction h generalizing i with
 |nil=>simp at e
 | @cons en Li DY KL h1 h2 h3 ih=>
   cases i with
   |zero=>simp at e;subst e;exact⟨en,rfl,h1⟩
   |succ i=>
    obtain⟨q,e1,e2⟩:=ih (i:=i) (by simpa using e)
    exact⟨q,by simpa using e1,e2⟩
theorem CF{k:Key}{u:Value}(h:lz k u=true):RelV (kV k) u:=by
 rcases bg h with⟨i,t,rfl,rfl⟩ | ⟨x,t,rfl,rfl⟩
 ·exact⟨t,rfl⟩
 ·exact⟨t,rfl⟩
theorem k8{X:Cx}{pins:List (Addr×Obj)}{σ:St}{H:Hp}{s:Shared}{d:Addr}{od:Obj}{n:Nat}(I:Inv X pins σ H s)
 (h:(∃ay,H d=some (.frz od (.dT ay))∧n=ay.length)∨∃ay,H d=some (.frz od (.dK ay))∧n=ay.length):
 ∃es ep,(d==sysModules)=false∧s.heap.get? d=some od∧od.ExactDict∧od.data= .dict es ep∧es.size=n∧∀i,i<n→∃e x,es[i]? =some e∧RelV x e.key∧A8 H d od i x:=by
 rcases h with⟨ay,e,rfl⟩ | ⟨ay,e,rfl⟩
 ·obtain⟨ho,z,lo,xs,rel,o,es,ep,h1,h2,h3,h4,h5⟩:=(show ObjOk X.prog X.w H s.heap d (.frz od (.dT ay)) from I.hok d _ e)
  rw[ho] at h1
  cases h1
  have hl:es.size=ay.length:=by
   rw[←Array.length_toList,h4,List.length_map]
   exact(Paired.length rel).symm
  refine⟨es,ep,lo,ho,h2,h3,hl,fun i hi=>?_⟩
  obtain⟨q,e1,e2,e3,e4⟩:=g_ rel (List.getElem?_eq_getElem hi)
  refine⟨entryOfKey (tupleKind (bA X.prog X.w)) q, .ref q.2.1,?_,rfl, .inl ⟨ay,ay[i].1,q.2.1,e,?_,rfl,e3⟩⟩
  ·rw[←Array.getElem?_toList,h4,List.getElem?_map,e1]
   rfl
  ·rw[List.getElem?_map,List.getElem?_eq_getElem hi]
   rfl
 ·obtain⟨ho,z,lo,vs,rel,o,es,ep,h1,h2,h3,h4,h5,h6⟩:=(show ObjOk X.prog X.w H s.heap d (.frz od (.dK ay)) from I.hok d _ e)
  rw[ho] at h1
  cases h1
  have hl:es.size=ay.length:=by
   rw[←Array.length_toList,h5.length]
   exact(Paired.length rel).symm
  refine⟨es,ep,lo,ho,h2,h3,hl,fun i hi=>?_⟩
  obtain⟨q,e1,e2,e3⟩:=g_ rel (List.getElem?_eq_getElem hi)
  obtain⟨en,e4,e5⟩:=we h5 e1
  refine⟨en,kV ay[i].1,by rw[←Array.getElem?_toList];exact e4,?_, .inr ⟨ay,ay[i].1,e,by rw[List.getElem?_map,List.getElem?_eq_getElem hi];rfl,rfl⟩⟩
  rw[e2]
  exact CF e5
theorem wF{P:Program}{w:World}{K:W.Frag}{tg:Expr}(d it:Addr)(od:Obj)(es:Array DictEntry)(ep:Nat)(zx:od.data= .dict es ep):
 Turn P w K tg (Ij d od) [it] it (fun i h=>h.IsKeyIter it d i es.size ep) where
 mem:=by simp
 obj:=fun i h st b hb=>by
  have e:b=it:=by simpa using hb
  subst e
  obtain⟨o,e,c,dd⟩:=st
  exact⟨o,e,fun v z=>by rw[dd] at z;cases z⟩
 keep:=fun i h h' st k=>st.at fun o e=>k it (by simp) o e
 item:=by
  intro X hP hw hK hc i pins s σ H E I hf st hg
  subst hP hw hK
  obtain⟨n,hn,hi⟩:∃n,((∃ay,H d=some (.frz od (.dT ay))∧n=ay.length)∨∃ay,H d=some (.frz od (.dK ay))∧n=ay.length)∧i<n:=by
   rcases hg with⟨ay,e,hi⟩ | ⟨ay,e,hi⟩
   ·exact⟨_, .inl ⟨ay,e,rfl⟩,hi⟩
   ·exact⟨_, .inr ⟨ay,e,rfl⟩,hi⟩
  obtain⟨DY,Et,lo,ho,hx,qC,hsz,hk⟩:=k8 I hn
  rw[zx] at qC
  cases qC
  obtain⟨en,x,e1,rx,ka⟩:=hk i hi
  obtain⟨f0,f1,f2,f3,f4,f5⟩:=hf it (by simp)
  refine yb st ho zx e1 fun h' jB sb=>?_
  have I1:Inv X pins σ H {s with heap:=h'}:=I.turned (t':=s.toks) (fun b o hb e=>(sb.2 b hb).trans e) f0 f1 f3 f4 f5
  obtain⟨o,e2,c,dd⟩:=id jB
  exact⟨_,rfl,k_ (s:={s with heap:=h'}) e2 c dd (by decide) ⟨x,H,I1,rx,⟨rfl,ka⟩,jB,fun b hb=>(hf b hb).1⟩⟩
 done:=by
  intro X hP hw hK hc i pins s σ H E I hf st hg
  subst hP hw hK
  obtain⟨n,hn,hi⟩:∃n,((∃ay,H d=some (.frz od (.dT ay))∧n=ay.length)∨∃ay,H d=some (.frz od (.dK ay))∧n=ay.length)∧n≤i:=by
   rcases hg with⟨ay,e,hi⟩ | ⟨ay,e,hi⟩
   ·exact⟨_, .inl ⟨ay,e,rfl⟩,hi⟩
   ·exact⟨_, .inr ⟨ay,e,rfl⟩,hi⟩
  obtain⟨DY,Et,lo,ho,hx,qC,hsz,hk⟩:=k8 I hn
  rw[zx] at qC
  cases qC
  obtain⟨f0,f1,f2,f3,f4,f5⟩:=hf it (by simp)
  exact vC (I.ok.hd hc) st (by omega) ho zx fun h' eb=>⟨rfl,I.turned (t':=s.toks) (fun b o hb e=>eb b o hb e) f0 f1 f3 f4 f5⟩
 self:=fun _ _ _ _ _ st h=>wpAny_pyIter_keyiter st h
def tupK(k:List Key):D:= .tup (k.map z8)
def uQ:Key→Bool
 | .inl _=>true
 | .inr x=>decide (x.length≤lim)
def jN:D→M (List D)
 | .dct ks _=>if ks.all (fun k=>decide (k.length≤lim)&&k.all uQ) then M.ret (ks.map tupK) else M.stuck
 | .dci ks _=>if ks.all uQ then M.ret (ks.map z8) else M.stuck
 |_=>M.stuck
theorem qI{K:W.Frag}{F:Hp}{k:Key}(h:uQ k=true):Den K F (z8 k) (kV k):=by
 cases k with
 |inl i=>exact rfl
 |inr x=>exact⟨rfl,of_decide_eq_true h⟩
theorem nG{K:W.Frag}{F:Hp}:∀{k:List Key},k.all uQ=true→DenL K F (k.map z8) (k.map kV)
 |[],_=>rfl
 |x::k,h=>by
  rw[List.all_cons,Bool.and_eq_true] at h
  exact .cons (qI h.1) (nG h.2)
theorem xR{K:W.Frag}{F:Hp}{a:Addr}{ob:Obj}{d:D}{ds:List D}(hd:Den K F d (.ref a))(hF:∃u,F a=some (.frz ob u))(e:jN d=M.ret ds):ItD K F (Ij a ob) ds:=fun F' H' i s1 s2=>by
 unfold jN at e
 split at e
 ·rename_i ks es
  split at e
  ·rename_i hok
   obtain rfl:=dB e
   obtain⟨a',KN,vs,z,h2,h3,h4,h5⟩:=hd
   cases z
   obtain⟨u,hu⟩:=hF
   rw[h2] at hu
   cases hu
   have hh:=s2 _ _ (s1 _ _ h2)
   have hz:=p7 (a:=ks) (b:=vs) (by rw[h4];exact h3.len)
   have hl:(ks.zip vs).length=ks.length:=by rw[←List.length_map (f:=(·.1)),hz]
   refine⟨fun d e=>?_,fun hle=> .inl ⟨_,hh,by rw[hl];simpa using hle⟩⟩
   rw[List.getElem?_map] at e
   cases q:ks[i]? with
   |none=>rw[q] at e;cases e
   |some k=>
    rw[q] at e
    cases e
    have hi:=(List.getElem?_eq_some_iff.mp q).1
    refine⟨.inl ⟨_,hh,by rw[hl];exact hi⟩,fun x H'' ⟨y1,y2⟩=>?_⟩
    subst y1
    have hk:=List.all_eq_true.mp hok k (List.mem_of_getElem? q)
    rw[Bool.and_eq_true] at hk
    rcases y2 with⟨ay,k',b,q1,q2,rfl,q3⟩ | ⟨ay,k',q1,q2,rfl⟩
    ·rw[hh] at q1
     cases q1
     rw[hz,q] at q2
     cases q2
     have E:=Ext.tup (F:=F') s2 q3
     exact⟨_,E,b,_,rfl,aD,nG hk.2,by rw[List.length_map];exact of_decide_eq_true hk.1⟩
    ·rw[hh] at q1;cases q1
  ·exact(dZ e).elim
 ·rename_i ks es
  split at e
  ·rename_i hok
   obtain rfl:=dB e
   obtain⟨a',KN,vs,z,h2,h3,h4,h5⟩:=hd
   cases z
   obtain⟨u,hu⟩:=hF
   rw[h2] at hu
   cases hu
   have hh:=s2 _ _ (s1 _ _ h2)
   have hz:=p7 (a:=ks) (b:=vs) (by rw[h4];exact h3.len)
   have hl:(ks.zip vs).length=ks.length:=by rw[←List.length_map (f:=(·.1)),hz]
   refine⟨fun d e=>?_,fun hle=> .inr ⟨_,hh,by rw[hl];simpa using hle⟩⟩
   rw[List.getElem?_map] at e
   cases q:ks[i]? with
   |none=>rw[q] at e;cases e
   |some k=>
    rw[q] at e
    cases e
    have hi:=(List.getElem?_eq_some_iff.mp q).1
    refine⟨.inr ⟨_,hh,by rw[hl];exact hi⟩,fun x H'' ⟨y1,y2⟩=>?_⟩
    subst y1
    have hk:=List.all_eq_true.mp hok k (List.mem_of_getElem? q)
    rcases y2 with⟨ay,k',b,q1,q2,rfl,q3⟩ | ⟨ay,k',q1,q2,rfl⟩
    ·rw[hh] at q1;cases q1
    ·rw[hh] at q1
     cases q1
     rw[hz,q] at q2
     cases q2
     exact⟨F',Ext.refl s2,qI hk⟩
  ·exact(dZ e).elim
 ·exact(dZ e).elim
section
variable{X:Cx}{Xw:Nat→Hp→Prop}{tg l:Expr}{δ:DE}
theorem yz(h:PD X Xw l δ):t_ X Xw tg l (fun ρ=>δ ρ>>=jN):=by
 intro pins s σ H R I ⟨F,ρ,S,w⟩
 refine bI (h pins s σ H (fun v H1=>∃F1 d,Ext F H F1 H1∧Den X.K F1 d v∧WPI X.K Xw F1 H1 (jN d) R) I ⟨F,ρ,S,WPI.bind w⟩) fun u s1 ⟨v,H1,I1,r1,F1,d,e1,q1,w1⟩=>?_
 rcases(jN d).cs with z | ⟨n,z⟩ | ⟨ds,z⟩
 ·rw[z] at w1;exact w1.elim
 ·exfalso
  unfold jN at z
  split at z
  ·split at z<;>cases z
  ·split at z<;>cases z
  ·cases z
 ·rw[z] at w1
  obtain⟨a,ob,u',rfl,hF,hn⟩:∃a ob u',v= .ref a∧F1 a=some (.frz ob u')∧∃n,((∃ay,H1 a=some (.frz ob (.dT ay))∧n=ay.length)∨∃ay,H1 a=some (.frz ob (.dK ay))∧n=ay.length):=by
   unfold jN at z
   split at z
   ·obtain⟨a,ob,vs,e,h2,_⟩:=q1;exact⟨a,ob,_,e,h2,_, .inl ⟨_,e1.fh _ _ h2,rfl⟩⟩
   ·obtain⟨a,ob,vs,e,h2,_⟩:=q1;exact⟨a,ob,_,e,h2,_, .inr ⟨_,e1.fh _ _ h2,rfl⟩⟩
   ·exact(dZ z).elim
  obtain⟨n,hn⟩:=hn
  cases (show u=_ from r1)
  obtain⟨es,ep,lo,ho,hx,hd,hsz,hk⟩:=k8 I1 hn
  refine vL lo ho hx hd ?_
  refine⟨s1.heap.objs.size,[s1.heap.objs.size],_,_,H1,rfl,I1.kept (t':=s1.toks) fun b o e=>Heap.get?_push_of_some _ e,wF a _ ob es ep hd,⟨_,Heap.get?_push_size _ rfl,rfl,rfl⟩,fun b hb=>?_,w1 _ _ _ (Ext.refl e1.fh) (xR q1 ⟨_,hF⟩ z)⟩
  have e:b=s1.heap.objs.size:=by simpa using hb
  subst e
  exact I1.fpOk (Nat.le_refl _) (I1.hok.fresh (Nat.le_refl _))
end
end L3
namespace L3
open PySem
section
variable{prog:Program}{w:World}{K:Type}[DecidableEq K]{knd:HeapKind prog w K}{A:Around}{E:Value→Shared→Prop}{s:Shared}
end
end L3
namespace L3
open PySem PySem.Spec L2
open PyProof.Rows hiding St
def ny(k:List Int):Int:=reduceHash (Builtin.Tuple.tupleHashOf (k.map hashInt))
section
variable{X:Cx}{pins:List (Addr×Obj)}{σ:St}{H:Hp}{s:Shared}{a b:Addr}{A:Around}{E:Value→Shared→Prop}
end
section
variable{X:Cx}{Xw:Nat→Hp→Prop}{o e f:Expr}{δ δo δe δf:DE}{pos p apos a5:Pos}{x:Str}{i:Nat}
end
section
variable{X:Cx}{Xw:Nat→Hp→Prop}{o e f:Expr}{δ δo δe δf:DE}{δs:DA}{pos p apos a5:Pos}{x:Str}{i:Nat}
end
section
variable{X:Cx}{Xw:Nat→Hp→Prop}{a b e DZ:Expr}{δ δa δb δs:DE}{pos p2:Pos}
end
section
variable{prog:Program}{w:World}{A:Around}{E:Value→Shared→Prop}{s:Shared}
end
def xD:List Nat→A_
 |[]=>EB
 |i::is=>Bq (xC i) (xD is)
theorem AV:∀{σ' σ:St},1<σ'.length→σ'.drop 2=σ→∀v1 v2:V,(σ'.set 0 (some v1)).set 1 (some v2)=[v1,v2].map some++σ
 |x1::x2::r,_,_,hd,v1,v2=>by subst hd;rfl
 |[],_,h,_,_,_=>by simp at h
 |[_],_,h,_,_,_=>by simp at h
theorem Aa:∀{ds:List D},ds.length=2→∃a b,ds=[a,b]
 |[a,b],_=>⟨a,b,rfl⟩
 |[],h=>by simp at h
 |[_],h=>by simp at h
 |_::_::_::_,h=>by simp at h
theorem DP{X:Cx}{x y:Str}{px py pt:Pos}{x1:Nat}{σ:St}(hN:X.N.Nodup)(h0:X.N[0]? =some x)(h1:X.N[1]? =some y)(hx:X.env.scope.names.lookup x=some .local)(hy:X.env.scope.names.lookup y=some .local)(hc:X.calm=true)
 (hn:(assignEach [Expr.Name x px, .Name y py] X.env).length=2:=by rfl)(qF:(assignEach [Expr.Name x px, .Name y py] X.env).findIdx? (·.1)=none:=by rfl)
 (hs:(assignEach [Expr.Name x px, .Name y py] X.env).map (·.2)=assign (.Name x px) X.env::(assignEach [Expr.Name y py] X.env).map (·.2):=by rfl)(D3:(assignEach [Expr.Name y py] X.env).map (·.2)=assign (.Name y py) X.env::(assignEach [] X.env).map (·.2):=by rfl):vg X (.Tuple [.Name x px, .Name y py] x1 pt) 2 σ:=fun pins s σ' F H d ts v u I fh hd rv q e=>by
 cases d with
 |tup ds=>
  have e:(if ds.length=2 then M.ret ds else M.stuck)=M.ret ts:=e
  split at e
  ·rename_i hl
   obtain rfl:=dB e
   obtain⟨d1,d2,rfl⟩:=Aa hl
   ·obtain⟨a,vs,rfl,zV,qC,_⟩:=q
    obtain⟨v1,v2,rfl,q1,q2⟩:=qC.two
    have G:PG X (.Tuple [.Name x px, .Name y py] x1 pt) (EC X.K 2 (xD [0,1])):=Dl hc (ro (cf hN h0 (.inl hx) (.inr hx)) (ro (cf hN h1 (.inl hy) (.inr hy)) AB D3) hs) hn qF
    refine bI (G pins s σ' H (.ref a) u (fun σ2 H2=>H2=H∧σ2=(σ'.set 0 (some v1)).set 1 (some v2)) I rv ⟨a,[v1,v2],rfl,SqT.of (fh _ _ zV),rfl,v1,[v2],rfl,v2,[],rfl,rfl,rfl,rfl⟩) fun _ s2 ⟨σ2,H2,I2,e1,e2⟩=>?_
    subst e1 e2
    refine⟨[v1,v2],?_, .cons q1 (.cons q2 .nil)⟩
    have hl:1<σ'.length:=by rw[I.len];exact(List.getElem?_eq_some_iff.mp h1).1
    have:=AV hl (show σ'.drop 2=σ from hd) v1 v2
    rw[←this]
    exact I2
  ·exact(dZ e).elim
 |_=>exact(dZ e).elim
section
variable{prog:Program}{w:World}{A:Around}{E:Value→Shared→Prop}{s:Shared}
end
section
variable{prog:Program}{w:World}{A:Around}{E:Value→Shared→Prop}{s:Shared}
end
section
variable{X:Cx}{Xw:Nat→Hp→Prop}{a b e e2:Expr}{δa δb:DE}{δs:DA}{p pos:Pos}
end
mutual
def Bf:D→Bool
 | .non=>true
 | .bl _=>true
 | .int _=>true
 | .str _=>true
 | .tup ds=>qr ds
 | .lst ds=>qr ds
 | .raw _=>false
 | .exc _=>false
 | .scr _=>false
 | .dct _ _=>false
 | .dci _ _=>false
def qr:List D→Bool
 |[]=>true
 |d::ds=>Bf d&&qr ds
end
def rf(ρ:aY):Bool:=ρ.all fun x=>match x with
 |some (.ow (.lst _))=>false
 |_=>true
theorem yr{ρ:aY}{i:Nat}{ds:List D}(h:rf ρ=true)(e:ρ[i]? =some (some (.ow (.lst ds)))):False:=by
 have:=List.all_eq_true.mp h _ (List.mem_of_getElem? e)
 cases this
section
variable{K:W.Frag}{F H F' H':Hp}{σ:St}{ρ:aY}{h:Heap}{b:Addr}
theorem OwnAt.dict(S:StE K F H σ ρ)(hd:rf ρ=true)(p:OwnAt σ ρ b):∃o,H b=some o∧((∃x,o= .dT x)∨∃x,o= .dK x):=by
 obtain⟨i,c,h1,h2⟩:=p
 obtain⟨v,h3,a,o,rfl,h4,h5,h6⟩:=S.den i _ h1
 rw[h3] at h2
 cases h2
 refine⟨o,h4,?_⟩
 cases c with
 |lst ds=>exact(yr hd h1).elim
 |dct ks ds=>obtain⟨vs,rfl,_⟩:=h6;exact .inl ⟨_,rfl⟩
 |dci ks ds=>obtain⟨vs,rfl,_⟩:=h6;exact .inr ⟨_,rfl⟩
open Classical in
theorem uP(S:StE K F H σ ρ)(hd:rf ρ=true)(E:Ext (fA σ ρ (iP h (OwnAt σ ρ) H) F) (iP h (OwnAt σ ρ) H) F' H'){a:Addr}{o:HO}(e:F' a=some o)(mx:∀q u,o≠ .frz q u):(if OwnAt σ ρ a then none else F' a)=some o:=by
 rw[if_neg,e]
 intro hp
 obtain⟨o',k1,k2⟩:=OwnAt.dict S hd hp
 have k3:fA σ ρ (iP h (OwnAt σ ρ) H) F a=some (oQ ((h.get? a).getD {cls:= .none,data:= .fields #[]}) o'):=by
  unfold fA iP
  rw[if_pos hp,if_pos hp,k1]
  rfl
 have k4:=E.ff a _ k3
 rw[e] at k4
 rcases k2 with⟨x,rfl⟩ | ⟨x,rfl⟩<;>cases k4<;>exact mx _ _ rfl
open Classical in
mutual
theorem xm(S:StE K F H σ ρ)(hd:rf ρ=true)(E:Ext (fA σ ρ (iP h (OwnAt σ ρ) H) F) (iP h (OwnAt σ ρ) H) F' H'):∀{d:D}{v:V},Bf d=true→Den K F' d v→Den K (fun b=>if OwnAt σ ρ b then none else F' b) d v
 | .non,_,_,q=>q
 | .bl _,_,_,q=>q
 | .int _,_,_,q=>q
 | .str _,_,_,q=>q
 | .tup ds,_,f,⟨a,vs,h1,h2,h3,h4⟩=>⟨a,vs,h1,uP S hd E h2 (fun _ _ z=>nomatch z),i_ S hd E f h3,h4⟩
 | .lst ds,_,f,⟨a,vs,h1,h2,h3,h4⟩=>⟨a,vs,h1,uP S hd E h2 (fun _ _ z=>nomatch z),i_ S hd E f h3,h4⟩
 | .raw _,_,f,_=>by cases f
 | .exc _,_,f,_=>by cases f
 | .scr _,_,f,_=>by cases f
 | .dct _ _,_,f,_=>by cases f
 | .dci _ _,_,f,_=>by cases f
theorem i_(S:StE K F H σ ρ)(hd:rf ρ=true)(E:Ext (fA σ ρ (iP h (OwnAt σ ρ) H) F) (iP h (OwnAt σ ρ) H) F' H'):∀{ds:List D}{vs:List V},qr ds=true→DenL K F' ds vs→DenL K (fun b=>if OwnAt σ ρ b then none else F' b) ds vs
 |[],_,_,q=>q
 |d::ds,_,f,⟨v,r,h1,h2,h3⟩=>by
  unfold qr at f
  rw[Bool.and_eq_true] at f
  exact⟨v,r,h1,xm S hd E f.1 h2,i_ S hd E f.2 h3⟩
end
end
section
variable{X:Cx}{Xw:Nat→Hp→Prop}{e:Expr}{δ:DE}
end
section
variable{X:Cx}{Xw:Nat→Hp→Prop}{st:Stmt}{τ:DS}{is:List Nat}
end
section
variable{X:Cx}{Xw:Nat→Hp→Prop}{a b e o:Expr}{δ δa δb δo:DE}{δl:DA}{pos apos a5:Pos}
theorem kJ{x y:Str}(h:x.cps.toList=y.cps.toList):x=y:=by
 obtain⟨⟨a⟩⟩:=x
 obtain⟨⟨b⟩⟩:=y
 cases (show a=b from h)
 rfl
end
section
variable{X:Cx}{Xw:Nat→Hp→Prop}{e:Expr}{δs:DA}{pos p:Pos}
end
section
variable{X:Cx}{Xw:Nat→Hp→Prop}{a b e o k v k' v':Expr}{δ δa δb δo δk δv δk' δv':DE}{δl δs:DA}{pos apos a5 p:Pos}
end
section
variable{X:Cx}{Xw:Nat→Hp→Prop}{a b e:Expr}{δ δa δb:DE}{δs:DA}{pos p:Pos}
theorem ig:∀{xs:List V}{us:List Value},xs.length=us.length→(∀(i:Nat) x u,xs[i]? =some x→us[i]? =some u→RelV x u)→Vals xs us
 |[],[],_,_=> .nil
 |x::xs,u::us,hl,h=> .cons (h 0 x u rfl rfl) (ig (by simpa using hl) fun i y v e1 e2=>h (i+1) y v (by simpa using e1) (by simpa using e2))
theorem t5{x:Str}{acc:Array Value}(h:ItemsOf (SignAt x) acc x.cps.size):Vals (x.cps.toList.map fun c=>V.str ⟨#[c]⟩) acc.toList:=by
 obtain⟨h1,h2⟩:=h
 refine ig (by simp[h1]) fun i v u e1 e2=>?_
 obtain⟨c,t,e3,rfl⟩:=h2 i u (by rw[←Array.getElem?_toList];exact e2)
 rw[List.getElem?_map,Array.getElem?_toList,e3] at e1
 cases e1
 exact⟨t,rfl⟩
def xZ:List D→M D
 |[.str x]=>if x.length≤lim then M.ret (.lst (signs x)) else M.stuck
 |_=>M.stuck
theorem sv(hc:X.calm=true):CallR X (.type "list") (fun xs H Q=>∃x:Str,xs=[.str x]∧x.length≤lim∧∀l,H l=none→Q (.ref l) (upd H l (.lst (x.cps.toList.map fun c=>V.str ⟨#[c]⟩)))):=by
 intro pins s σ H xs us Q I r h
 obtain⟨x,rfl,hl,q⟩:=h
 obtain⟨u,rfl,r1⟩:=r.one
 obtain⟨t,rfl⟩:=r1
 have hz:x.cps.size≤sizeLine:=by have:=cW;have:x.cps.size≤lim:=hl;omega
 refine call_list_str (I.ok.hd hc) x t (fun h' tk GF c' kp e hi=>?_) hz
 refine⟨.ref s.heap.objs.size,_,I.laid (t':=tk) kp ?_ (show ObjOk X.prog X.w _ h' _ (.lst (x.cps.toList.map fun c=>V.str ⟨#[c]⟩)) from⟨by simpa using hz,GF.toList,c',t5 hi,by simpa using e⟩),rfl,q _ (I.hok.fresh (Nat.le_refl _))⟩
 exact Nat.le_refl _
theorem k7{K:W.Frag}{F:Hp}:∀l:List Nat,DenL K F (l.map fun c=>D.str ⟨#[c]⟩) (l.map fun c=>V.str ⟨#[c]⟩)
 |[]=> .nil
 |c::l=> .cons ⟨rfl,by show 1≤lim;decide⟩ (k7 l)
theorem yx(hc:X.calm=true)(hg:Gl X "list")(hm:X.mg "list"=none)(hb:bootBuiltins "list"=some (.type "list"))(ha:ko X Xw [e] δs)(he:starEach [e] X.env=[(false,eval e X.env)]:=by rfl):PD X Xw (.Call (.Name "list" p) [e] [] pos) (dA xZ δs):=
 nY (sv hc) (fun Xw F H vs ds Q s h w=>by
  unfold xZ at w
  split at w
  ·rename_i x
   obtain⟨v,rfl,h1⟩:=h.one
   obtain⟨h1,h2⟩:=h1
   subst h1
   rw[if_pos h2] at w
   exact⟨x,rfl,h2,fun l hq=>WP.fin w (Ext.lay s hq) ⟨l,_,rfl,aD,k7 _,by unfold signs;rw[List.length_map,Array.length_toList];exact h2⟩⟩
  ·exact w.elim) hg hm hb ha (by decide) (by decide) he rfl
end
end L3
namespace L3
open PySem PySem.SetTable
theorem nQ{α:Type}[DecidableEq α]:∀{l U:List α},l.Nodup→(∀x∈l,x∈U)→l.length≤U.length
 |[],_,_,_=>Nat.zero_le _
 |a::l,U,hn,h=>by
  have ha:=h a (List.mem_cons_self ..)
  have Cg:=List.nodup_cons.mp hn
  have:=nQ (l:=l) (U:=U.erase a) Cg.2 fun x hx=>(List.mem_erase_of_ne (fun e:x=a=>Cg.1 (e▸hx))).mpr (h x (List.mem_cons_of_mem _ hx))
  rw[List.length_erase_of_mem ha] at this
  have:0<U.length:=List.length_pos_of_mem ha
  rw[List.length_cons]
  omega
def iK(m b:Nat):Nat→Nat×Nat
 |0=>(b % (m+1),b)
 |k+1=>leap m (iK m b k).1 (iK m b k).2
def D_(m i:Nat):Nat:=(i*5+1) % (m+1)
def it(m:Nat):Nat→Nat→Nat
 |0,x=>x
 |n+1,x=>D_ m (it m n x)
theorem lx(m:Nat):∀a b x,it m (a+b) x=it m a (it m b x)
 |0,b,x=>by rw[Nat.zero_add];rfl
 |a+1,b,x=>by rw[Nat.add_right_comm];show D_ m _=D_ m _;rw[lx m a b x]
theorem E8(m b:Nat):∀k,(iK m b k).2=b / 32 ^ k
 |0=>by simp[iK]
 |k+1=>by
  show (iK m b k).2 / 32=_
  rw[E8 m b k,Nat.div_div_eq_div_mul,Nat.pow_succ]
theorem uz{m b:Nat}(hb:b<2 ^ 64):∀k,(iK m b (k+13)).1=it m k (iK m b 13).1
 |0=>by rw[Nat.zero_add];rfl
 |k+1=>by
  rw[Nat.add_right_comm]
  have hq:(iK m b (k+13)).2 / 32=0:=by
   rw[E8]
   refine Nat.div_eq_of_lt ?_
   refine Nat.lt_of_le_of_lt (m:=b / 32 ^ 13) ?_ ?_
   ·rw[Nat.pow_add,Nat.mul_comm,←Nat.div_div_eq_div_mul]
    exact Nat.div_le_self ..
   ·have:b / 32 ^ 13<1:=Nat.div_lt_of_lt_mul (by omega)
    omega
  show ((iK m b (k+13)).1*5+1+(iK m b (k+13)).2 / 32) % (m+1)=D_ m _
  rw[hq,uz hb k]
  rfl
def zq(m:Nat):Prop:=m=7∨m=31∨m=127
def HH(m:Nat):Nat→Nat→List Nat
 |0,_=>[]
 |n+1,x=>x::HH m n (D_ m x)
theorem tB(m:Nat):∀(n x j:Nat),j∈HH m n x→∃a,a<n∧it m a x=j
 |0,x,j,h=>by cases h
 |n+1,x,j,h=>by
  rcases List.mem_cons.mp h with rfl | h
  ·exact⟨0,by omega,rfl⟩
  ·obtain⟨a,ha,e⟩:=tB m n (D_ m x) j h
   exact⟨a+1,by omega,by rw[lx m a 1 x];exact e⟩
theorem Ao{m:Nat}(hm:zq m):(∀j,j<m+1→j∈HH m (m+1) 0)∧it m (m+1) 0=0:=by
 rcases hm with rfl | rfl | rfl
 ·exact⟨by decide+kernel,by decide+kernel⟩
 ·exact⟨by decide+kernel,by decide+kernel⟩
 ·exact⟨by decide+kernel,by decide+kernel⟩
theorem JA{m:Nat}(hm:zq m){i j:Nat}(hi:i<m+1)(hj:j<m+1):∃n,n≤m∧it m n i=j:=by
 obtain⟨h1,h2⟩:=Ao hm
 obtain⟨a,ha,rfl⟩:=tB m _ 0 i (h1 i hi)
 obtain⟨b,hb,rfl⟩:=tB m _ 0 j (h1 j hj)
 by_cases h:a≤b
 ·exact⟨b - a,by omega,by rw[←lx,Nat.sub_add_cancel h]⟩
 ·refine⟨m+1 - a+b,by omega,?_⟩
  rw[←lx,show m+1 - a+b+a=b+(m+1) by omega,lx,h2]
theorem E7(m b k:Nat):(iK m b k).1<m+1:=by
 cases k with
 |zero=>exact Nat.mod_lt _ (by omega)
 |succ k=>exact Nat.mod_lt _ (by omega)
theorem reach{m b:Nat}(hm:zq m)(hb:b<2 ^ 64){j:Nat}(hj:j<m+1):∃k,k≤m+13∧(iK m b k).1=j:=by
 obtain⟨n,hn,e⟩:=JA hm (E7 m b 13) hj
 exact⟨n+13,by omega,by rw[uz hb,e]⟩
theorem uh(h:Int):bits h<2 ^ 64:=by
 unfold bits
 have h1:=Int.emod_nonneg h (show (2 ^ 64:Int)≠0 by decide)
 have h2:=Int.emod_lt_of_pos h (show (0:Int)<2 ^ 64 by decide)
 omega
def zr(t:SetTable):Nat→Probe→Probe
 |0,p=>p
 |n+1,p=>zr t n (t.advance p)
theorem vh(t:SetTable)(p:Probe):(t.advance p).dummy=p.dummy:=by
 unfold advance
 split<;>rfl
theorem ot(t:SetTable):∀a b p,zr t (a+b) p=zr t b (zr t a p)
 |0,b,p=>by rw[Nat.zero_add];rfl
 |a+1,b,p=>by rw[Nat.add_right_comm];exact ot t a b _
def sK(m:Nat)(h:Int)(k:Nat):Probe:={j:=(iK m (bits h) k).1,more:=runEnd m (iK m (bits h) k).1 - (iK m (bits h) k).1,i:=(iK m (bits h) k).1,perturb:=(iK m (bits h) k).2,dummy:=none}
theorem DC(m i:Nat):runEnd m i - i≤9:=by
 unfold runEnd
 split<;>omega
theorem wX(t:SetTable):∀(n:Nat) (p:Probe),n≤p.more→zr t n p={p with j:=p.j+n,more:=p.more - n}
 |0,p,_=>rfl
 |n+1,p,h=>by
  show zr t n (t.advance p)=_
  have e:t.advance p={p with j:=p.j+1,more:=p.more - 1}:=by unfold advance;rw[if_pos (by omega)]
  rw[e,wX t n _ (by show n≤p.more - 1;omega)]
  show ({j:=p.j+1+n,more:=p.more - 1 - n,i:=p.i,perturb:=p.perturb,dummy:=p.dummy}:Probe)=_
  rw[Nat.add_assoc,Nat.add_comm 1 n,Nat.sub_sub,Nat.add_comm 1 n]
theorem wY{t:SetTable}{h:Int}{k:Nat}:zr t ((sK t.mask h k).more+1) (sK t.mask h k)=sK t.mask h (k+1):=by
 rw[ot,wX t _ _ (Nat.le_refl _)]
 show t.advance _=_
 unfold advance
 rw[if_neg (show¬(sK t.mask h k).more - (sK t.mask h k).more>0 by rw[Nat.sub_self];exact Nat.lt_irrefl 0)]
 rfl
theorem wZ{t:SetTable}{h:Int}:∀k,∃n,n≤10*k∧zr t n (t.probeStart h)=sK t.mask h k
 |0=>⟨0,Nat.zero_le _,rfl⟩
 |k+1=>by
  obtain⟨n,hn,e⟩:=wZ (t:=t) (h:=h) k
  have:=DC t.mask (iK t.mask (bits h) k).1
  refine⟨n+((sK t.mask h k).more+1),?_,by rw[ot,e,wY]⟩
  show n+(runEnd t.mask (iK t.mask (bits h) k).1 - (iK t.mask (bits h) k).1+1)≤_
  omega
theorem uu{t:SetTable}{hashAt:Nat→Int}{h:Int}(hd:∀j,t.slot j≠ .dummy)(hh:∀j i,t.slot j= .live i→(hashAt i==h)=false):
 ∀(n fuel:Nat) (p:Probe),n<fuel→p.dummy=none→t.slot (zr t n p).j= .empty→∃j,probe.go t hashAt h fuel p=some (.empty j none)∧t.slot j= .empty
 |n,0,p,hn,_,_=>absurd hn (by omega)
 |n,fuel+1,p,hn,hp,he=>by
  unfold probe.go
  cases hs:t.slot p.j with
  |empty=>exact⟨p.j,by rw[hp],hs⟩
  |dummy=>exact absurd hs (hd _)
  |live i=>
   dsimp only
   rw[hh p.j i hs]
   cases n with
   |zero=>rw[show (zr t 0 p).j=p.j from rfl,hs] at he;cases he
   |succ n=>
    have:=uu hd hh n fuel (t.advance p) (by omega) (by rw[vh];exact hp) he
    simpa using this
theorem oa{t:SetTable}{j i:Nat}(h:t.slot j= .live i):t.place[i]? =some j:=by
 unfold slot at h
 dsimp only at h
 split at h
 ·rename_i e
  cases h
  exact eq_of_beq e
 ·split at h<;>cases h
theorem iV{t:SetTable}(hd:t.dummies= #[])(j:Nat):t.slot j≠ .dummy:=by
 unfold slot
 dsimp only
 split
 ·exact fun z=>by cases z
 ·split
  ·rename_i e
   rw[hd] at e
   unfold has at e
   simp at e
  ·exact fun z=>by cases z
theorem tP{t:SetTable}(hd:t.dummies= #[])(hp:t.place.size≤t.mask):∃j,j<t.mask+1∧t.slot j= .empty:=by
 apply Classical.byContradiction
 intro qD
 have:∀j∈List.range (t.mask+1),j∈t.place.toList:=fun j hj=>by
  cases hs:t.slot j with
  |empty=>exact absurd ⟨j,List.mem_range.mp hj,hs⟩ qD
  |dummy=>exact absurd hs (iV hd j)
  |live i=>exact List.mem_of_getElem? ((Array.getElem?_toList ..).trans (oa hs))
 have:=nQ List.nodup_range this
 rw[List.length_range,Array.length_toList] at this
 omega
theorem tJ{t:SetTable}{hashAt:Nat→Int}{h:Int}(hm:zq t.mask)(hd:t.dummies= #[])(hp:t.place.size≤t.mask)(hh:∀i,i<t.place.size→(hashAt i==h)=false):
 ∃j,t.probe hashAt h (t.probeStart h)=some (.empty j none)∧t.slot j= .empty:=by
 obtain⟨j,hj,he⟩:=tP hd hp
 obtain⟨k,hk,e⟩:=reach hm (uh h) hj
 obtain⟨n,hn,ea⟩:=wZ (t:=t) (h:=h) k
 refine uu (iV hd) (fun j i hs=>hh i ?_) n _ _ (by unfold turns;omega) rfl (by rw[ea];show t.slot (iK t.mask (bits h) k).1=_;rw[e];exact he)
 obtain⟨hi,_⟩:=Array.getElem?_eq_some_iff.mp (oa hs)
 exact hi
def vals(o:Array (Option Nat))(n:Nat):List Nat:=(List.range n).filterMap fun j=>o.getD j none
theorem xu{α β:Type}[DecidableEq α]{f g:α→Option β}{a:α}{b:β}(h0:f a=none)(h1:g a=some b):∀{l:List α},l.Nodup→a∈l→(∀x∈l,x≠a→g x=f x)→(l.filterMap g).Perm (b::l.filterMap f)
 |[],_,h,_=>by cases h
 |x::l,hn,h,hg=>by
  have Cg:=List.nodup_cons.mp hn
  by_cases e:x=a
  ·subst e
   rw[List.filterMap_cons_some h1,List.filterMap_cons_none h0]
   have:l.filterMap g=l.filterMap f:=ix fun y hy=>hg y (List.mem_cons_of_mem _ hy) fun z=>Cg.1 (z▸hy)
   rw[this]
  ·have ih:=xu h0 h1 Cg.2 ((List.mem_cons.mp h).resolve_left fun z=>e z.symm) fun y hy=>hg y (List.mem_cons_of_mem _ hy)
   have hx:=hg x (List.mem_cons_self ..) e
   cases hf:f x with
   |none=>rw[List.filterMap_cons_none (hx.trans hf),List.filterMap_cons_none hf];exact ih
   |some y=>rw[List.filterMap_cons_some (hx.trans hf),List.filterMap_cons_some hf];exact(ih.cons y).trans (List.Perm.swap ..)
theorem nu{m:Nat}{o:Array (Option Nat)}{b:Nat}:∀(n fuel k:Nat),n<fuel→(o.getD (iK m b (k+n)).1 (some 0)).isNone=true→∃j,layClean.free m o fuel (iK m b k).1 (iK m b k).2=some j∧(o.getD j (some 0)).isNone=true
 |n,0,k,h,_=>absurd h (by omega)
 |n,fuel+1,k,h,he=>by
  unfold layClean.free
  cases hf:(List.range (runEnd m (iK m b k).1+1 - (iK m b k).1)).find? fun q=>(o.getD ((iK m b k).1+q) (some 0)).isNone with
  |some q=>exact⟨_,rfl,List.find?_some (p:=fun q=>(o.getD ((iK m b k).1+q) (some 0)).isNone) hf⟩
  |none=>
   cases n with
   |zero=>
    have:=List.find?_eq_none.mp hf 0 (List.mem_range.mpr (by unfold runEnd;split<;>omega))
    rw[Nat.add_zero] at this he
    exact absurd he this
   |succ n=>
    exact nu n fuel (k+1) (by omega) (by rw[Nat.add_right_comm];exact he)
theorem sO{o:Array (Option Nat)}{j:Nat}(h:(o.getD j (some 0)).isNone=true):j<o.size∧o[j]? =some none:=by
 rw[Array.getD_eq_getD_getElem?] at h
 cases e:o[j]? with
 |none=>rw[e] at h;cases h
 |some v=>
  rw[e] at h
  cases v with
  |none=>exact⟨(Array.getElem?_eq_some_iff.mp e).1,rfl⟩
  |some v=>cases h
theorem xX{m:Nat}(hm:zq m){o:Array (Option Nat)}{h:Int}{k:Nat}(hs:o.size=m+1)(hp:(vals o (m+1)).Perm (List.range k))(hk:k≤m):
 ∃j,layClean.free m o (turns m) (bits h % (m+1)) (bits h)=some j∧(o.setIfInBounds j (some k)).size=m+1∧(vals (o.setIfInBounds j (some k)) (m+1)).Perm (List.range (k+1)):=by
 obtain⟨j0,Kf,Gb⟩:∃j,j<m+1∧o.getD j none=none:=by
  apply Classical.byContradiction
  intro qD
  have all:∀l:List Nat,(∀j∈l,j<m+1)→(l.filterMap fun j=>o.getD j none).length=l.length:=by
   intro l
   induction l with
   |nil=>exact fun _=>rfl
   |cons a l ih=>
    intro h
    cases e:o.getD a none with
    |none=>exact absurd ⟨a,h a (List.mem_cons_self ..),e⟩ qD
    |some v=>rw[List.filterMap_cons_some (f:=fun j=>o.getD j none) e,List.length_cons,List.length_cons,ih fun j hj=>h j (List.mem_cons_of_mem _ hj)]
  have h1:=hp.length_eq
  rw[vals,all _ fun j hj=>List.mem_range.mp hj,List.length_range,List.length_range] at h1
  omega
 have J3:(o.getD j0 (some 0)).isNone=true:=by
  rw[Array.getD_eq_getD_getElem?] at Gb⊢
  rw[Array.getElem?_eq_getElem (by omega)] at Gb⊢
  rw[Option.getD_some] at Gb⊢
  rw[Gb]
  rfl
 obtain⟨q,hq,e⟩:=reach hm (uh h) Kf
 obtain⟨j,ej,hj⟩:=nu (m:=m) (o:=o) (b:=bits h) q (turns m) 0 (by unfold turns;omega) (by rw[Nat.zero_add,e];exact J3)
 obtain⟨dz,xG⟩:=sO hj
 refine⟨j,ej,by rw[Array.size_setIfInBounds];exact hs,?_⟩
 have hP:=xu (f:=fun i=>o.getD i none) (g:=fun i=>(o.setIfInBounds j (some k)).getD i none) (a:=j) (b:=k) (by
  show o.getD j none=none
  rw[Array.getD_eq_getD_getElem?,xG]
  rfl) (by
  show (o.setIfInBounds j (some k)).getD j none=some k
  rw[Array.getD_eq_getD_getElem?,Array.getElem?_setIfInBounds_self_of_lt dz]
  rfl) (l:=List.range (m+1)) List.nodup_range (List.mem_range.mpr (by omega)) fun x _ hx=>by
  show (o.setIfInBounds j (some k)).getD x none=o.getD x none
  rw[Array.getD_eq_getD_getElem?,Array.getD_eq_getD_getElem?,Array.getElem?_setIfInBounds_ne (fun z=>hx z.symm)]
 refine hP.trans ((hp.cons k).trans ?_)
 rw[List.range_succ (n:=k)]
 exact List.perm_append_comm (l₁:=[k])
theorem uH{m:Nat}(hm:zq m):∀(hs:List Int) (o:Array (Option Nat)) (k:Nat),o.size=m+1→(vals o (m+1)).Perm (List.range k)→k+hs.length≤m→
 ∃o',(hs.foldl (init:=some (o,k)) fun acc h=>do
  let (owner,k)←acc
  let j←layClean.free m owner (turns m) (bits h % (m+1)) (bits h)
  pure (owner.setIfInBounds j (some k),k+1))=some (o',k+hs.length)∧(vals o' (m+1)).Perm (List.range (k+hs.length))
 |[],o,k,h1,h2,h3=>⟨o,rfl,h2⟩
 |h::hs,o,k,h1,h2,h3=>by
  rw[List.length_cons] at h3
  obtain⟨j,ej,e1,e2⟩:=xX hm (h:=h) h1 h2 (by omega)
  obtain⟨o',e3,e4⟩:=uH hm hs _ (k+1) e1 e2 (by omega)
  rw[List.length_cons,show k+(hs.length+1)=k+1+hs.length by omega]
  refine⟨o',?_,e4⟩
  rw[List.foldl_cons,←e3]
  congr 1
  show (layClean.free m o (turns m) (bits h % (m+1)) (bits h)>>=_)=_
  rw[ej]
  rfl
theorem tZ(m:Nat):vals (Array.replicate (m+1) none) (m+1)=[]:=by
 unfold vals
 refine List.filterMap_eq_nil_iff.mpr fun j hj=>?_
 rw[Array.getD_eq_getD_getElem?,Array.getElem?_replicate]
 split<;>rfl
theorem z9{m f mv:Nat}{led pl:Bool}(hm:zq m){hs:Array Int}(hl:hs.size≤m):
 ∃t order,laid m f mv led pl hs=some (t,order)∧t.mask=m∧t.dummies= #[]∧t.place.size=hs.size∧order.toList.Perm (List.range hs.size)∧t.plain=pl∧t.led=led∧t.place.toList.Pairwise (· < ·):=by
 obtain⟨o,e1,e2⟩:=uH hm hs.toList (Array.replicate (m+1) none) 0 (by simp) (by rw[tZ];exact .refl _) (by rw[Nat.zero_add,Array.length_toList];exact hl)
 rw[Nat.zero_add,Array.length_toList] at e1 e2
 have e3:layClean m hs=some o:=by
  unfold layClean
  rw[←Array.foldl_toList,e1]
  rfl
 have e4:((List.range (m+1)).filterMap fun j=>(o.getD j none).map (j,·)).map (·.2)=vals o (m+1):=by
  unfold vals
  rw[List.map_filterMap]
  refine ix fun j _=>?_
  cases o.getD j none<;>rfl
 refine⟨_,_,by unfold laid;rw[e3];rfl,rfl,rfl,?_,?_,rfl,rfl,?_⟩
 ·show ((((List.range (m+1)).filterMap fun j=>(o.getD j none).map (j,·)).map (·.1)).toArray).size=_
  rw[List.size_toArray,List.length_map,←List.length_map (f:=(·.2)),e4,e2.length_eq,List.length_range]
 ·show ((((List.range (m+1)).filterMap fun j=>(o.getD j none).map (j,·)).map (·.2)).toArray).toList.Perm _
  rw[e4]
  exact e2
 ·show ((((List.range (m+1)).filterMap fun j=>(o.getD j none).map (j,·)).map (·.1)).toArray).toList.Pairwise (· < ·)
  have:∀l:List Nat,((l.filterMap fun j=>(o.getD j none).map (j,·)).map (·.1)).Sublist l:=by
   intro l
   induction l with
   |nil=>exact .slnil
   |cons a l ih=>
    cases e:o.getD a none with
    |none=>rw[List.filterMap_cons_none (f:=fun j=>(o.getD j none).map (j,·)) (by show (o.getD a none).map (a,·)=none;rw[e];rfl)];exact ih.cons a
    |some v=>rw[List.filterMap_cons_some (f:=fun j=>(o.getD j none).map (j,·)) (b:=(a,v)) (by show (o.getD a none).map (a,·)=some (a,v);rw[e];rfl)];exact ih.cons₂ a
  exact List.Pairwise.sublist (this _) List.pairwise_lt_range
theorem kQ{xs:Array Nat}(hs:xs.toList.Pairwise (· < ·)){j:Nat}:∀(fuel lo hi:Nat),lo≤hi→hi≤xs.size→hi - lo≤fuel→(∀i (h:i<xs.size),i<lo→xs[i]<j)→(∀i (h:i<xs.size),hi≤i→j≤xs[i])→
 below.go xs j fuel lo hi≤xs.size∧(∀i (h:i<xs.size),i<below.go xs j fuel lo hi→xs[i]<j)∧∀i (h:i<xs.size),below.go xs j fuel lo hi≤i→j≤xs[i]
 |0,lo,hi,h1,h2,h3,h4,h5=>by
  have:lo=hi:=by omega
  subst this
  exact⟨h2,h4,h5⟩
 |fuel+1,lo,hi,h1,h2,h3,h4,h5=>by
  have mono:∀i k (hk:k<xs.size) (h:i<k),xs[i]'(by omega)<xs[k]:=fun i k hk h=>by
   have:=List.pairwise_iff_getElem.mp hs i k (by simpa using (by omega:i<xs.size)) (by simpa using hk) h
   simpa using this
  unfold below.go
  by_cases dz:lo<hi
  ·rw[if_pos dz]
   dsimp only
   have hm:(lo+hi) / 2<xs.size:=by omega
   have hg:xs.getD ((lo+hi) / 2) j=xs[(lo+hi) / 2]:=by rw[Array.getD_eq_getD_getElem?,Array.getElem?_eq_getElem hm];rfl
   rw[hg]
   by_cases hc:xs[(lo+hi) / 2]<j
   ·rw[if_pos hc]
    refine kQ hs fuel _ hi (by omega) h2 (by omega) (fun i h qa=>?_) h5
    by_cases e:i=(lo+hi) / 2
    ·subst e;exact hc
    ·exact Nat.lt_trans (mono i _ hm (by omega)) hc
   ·rw[if_neg hc]
    refine kQ hs fuel lo _ (by omega) (by omega) (by omega) h4 fun i h qa=>?_
    by_cases e:i=(lo+hi) / 2
    ·subst e;omega
    ·have:=mono _ i h (by omega:(lo+hi) / 2<i)
     omega
  ·rw[if_neg dz]
   have:lo=hi:=by omega
   subst this
   exact⟨h2,h4,h5⟩
theorem kR{xs:Array Nat}(hs:xs.toList.Pairwise (· < ·))(j:Nat):below xs j≤xs.size∧(∀i (h:i<xs.size),i<below xs j→xs[i]<j)∧∀i (h:i<xs.size),below xs j≤i→j≤xs[i]:=
 kQ hs xs.size 0 xs.size (Nat.zero_le _) (Nat.le_refl _) (by omega) (fun i h hi=>absurd hi (by omega)) fun i h hi=>absurd h (by omega)
theorem yY{t:SetTable}{j:Nat}(hs:t.place.toList.Pairwise (· < ·))(h:t.slot j= .empty):(insertAt t.place (below t.place j) j).toList.Pairwise (· < ·):=by
 obtain⟨h1,h2,h3⟩:=kR hs j
 have mx:t.place[below t.place j]? ≠some j:=fun z=>by
  unfold slot at h
  dsimp only at h
  rw[z,beq_self_eq_true] at h
  cases h
 rw[toList_insertAt]
 have zV:=hs
 rw[←List.take_append_drop (below t.place j) t.place.toList,List.pairwise_append] at zV
 obtain⟨q1,q2,q3⟩:=zV
 have lo:∀a∈t.place.toList.take (below t.place j),a<j:=fun a ha=>by
  obtain⟨i,hi,e⟩:=List.mem_take_iff_getElem.mp ha
  have qa:i<t.place.size:=by simp at hi;omega
  have:=h2 i qa (by omega)
  rw[←e]
  simpa using this
 have hi:∀a∈t.place.toList.drop (below t.place j),j<a:=fun a ha=>by
  obtain⟨i,hi,e⟩:=List.mem_drop_iff_getElem.mp ha
  have qa:below t.place j+i<t.place.size:=by
   have:i+below t.place j<t.place.size:=by simpa using hi
   omega
  have:=h3 _ qa (by omega)
  have e':t.place[below t.place j+i]=a:=by simpa using e
  rw[e'] at this
  refine Nat.lt_of_le_of_ne this fun z=>?_
  subst z
  by_cases i0:i=0
  ·subst i0
   refine mx ?_
   rw[Array.getElem?_eq_getElem (by simpa using qa)]
   exact congrArg some (by simpa using e')
  ·have h0:below t.place j<t.place.size:=by omega
   have m1:=h3 _ h0 (Nat.le_refl _)
   have m2:=List.pairwise_iff_getElem.mp hs (below t.place j) (below t.place j+i) (by simpa using h0) (by simpa using qa) (by omega)
   have m2:t.place[below t.place j]<t.place[below t.place j+i]:=by simpa using m2
   omega
 refine List.pairwise_append.mpr ⟨q1,List.pairwise_cons.mpr ⟨hi,q2⟩,fun a ha b hb=>?_⟩
 rcases List.mem_cons.mp hb with rfl | hb
 ·exact lo a ha
 ·exact q3 a ha b hb
def slotAt(xs:Array Nat):Nat→Nat
 |0=>0
 |k+1=>xs.getD k 0+1
theorem below_at{xs:Array Nat}(hs:xs.toList.Pairwise (· < ·)):∀{k:Nat},k≤xs.size→below xs (slotAt xs k)=k
 |0,_=>by
  obtain⟨h1,h2,_⟩:=kR hs 0
  show below xs 0=0
  cases e:below xs 0 with
  |zero=>rfl
  |succ p=>
   rw[e] at h1 h2
   exact absurd (h2 0 (by omega) (by omega)) (by omega)
 |k+1,hk=>by
  have hg:xs.getD k 0=xs[k]:=by rw[Array.getD_eq_getD_getElem?,Array.getElem?_eq_getElem (by omega)];rfl
  show below xs (xs.getD k 0+1)=k+1
  rw[hg]
  obtain⟨h1,h2,h3⟩:=kR hs (xs[k]+1)
  have a1:¬below xs (xs[k]+1)≤k:=fun z=>by have:=h3 k (by omega) z;omega
  have a2:¬k+1<below xs (xs[k]+1):=fun z=>by
   have dz:k+1<xs.size:=by omega
   have m1:=h2 (k+1) dz z
   have m2:=List.pairwise_iff_getElem.mp hs k (k+1) (by simpa using (by omega:k<xs.size)) (by simpa using dz) (by omega)
   have m2:xs[k]<xs[k+1]:=by simpa using m2
   omega
  omega
structure TabOk (t:SetTable) (n:Nat) (ld:Bool):Prop where
 Lk:zq t.mask
 size:t.place.size=n
 dum:t.dummies= #[]
 room:5*n<3*t.mask
 plain:t.plain=true
 led:t.led=ld
 rise:t.place.toList.Pairwise (· < ·)
theorem TabOk.fits{t:SetTable}{n:Nat}{ld:Bool}(h:TabOk t n ld):t.fits n=true:=by
 unfold SetTable.fits fill
 rw[h.dum,h.size]
 have:=h.room
 simp
 omega
def SetH(ld:Bool)(h:Heap)(a:Addr)(xs:List (Int×Value)):Prop:=∃o es ep t,h.get? a=some o∧o.ExactSet∧o.data= .set es ep t∧es.toList.Perm xs∧TabOk t es.size ld
theorem gZ{α:Type}(xs:Array α)(p:Nat)(x:α):(insertAt xs p x).size=xs.size+1:=by
 have:=(insertAt_perm xs p x).length_eq
 simpa using this
section
variable{prog:Program}{w:World}{A:Around}{E:Value→Shared→Prop}{s:Shared}
theorem iB{ks:List Int}{b:Addr}{Q:Bool→Shared→Prop}(hk:IsTupleKey (intKind prog w) s.heap ks b)(h:Q true s):wpAny (model prog w) A (hashByValue 8 (.ref b)) Q E s:=by
 have hT:=hk.typeIs
 obtain⟨o,items,n,ho,_,hd,hi⟩:=hk
 unfold hashByValue
 refine wpAny_bind (wpAny_specialOf hT F.slot_tuple_hash.lookup ?_)
 dsimp only
 refine wpAny_bind (wpAny_seqItems ho hd ?_)
 refine wpAny_bind ?_
 show wpAny _ _ (forIn items _ _) _ _ s
 rw[←Array.forIn_toList]
 refine wpAny_forIn_list _ (fun rest r s'=>r.1=none∧s'=s∧∃xV,ItemsAre (intKind prog w) xV rest) _ ?_ ?_ _ _ ⟨rfl,rfl,ks,hi⟩
 ·rintro v rest r s' ⟨hr,rfl,xV,hl⟩
  cases hl with
  | @cons k v KJ vs h1 h2=>
    have hv:hashByValue 7 v=pure true:=by
     cases v<;>first | rfl | (exact absurd h1 (by simp[intKind,Value.isInt]))
    rw[hv]
    refine wpAny_bind (wpAny_pure ?_)
    simp only[Bool.not_true,Bool.false_eq_true,if_false]
    exact wpAny_pure ⟨rfl,rfl,_,h2⟩
 ·rintro⟨r1,r2⟩ s' ⟨hr,rfl,_⟩
  simp only at hr
  subst hr
  exact wpAny_pure h
theorem mU{a b:Addr}{hk:Int}{o:Obj}{es:Array (Int×Value)}{ep:Nat}{t:SetTable}{Q:SetFound→Shared→Prop}(ho:s.heap.get? a=some o)(hd:o.data= .set es ep t){ld:Bool}(ht:TabOk t es.size ld)(Ci:∀e∈es.toList,e.1≠hk)
 (h:∀j,t.slot j= .empty→Q (.free j false) s):wpAny (model prog w) A (setSearch a (.ref b) hk true) Q E s:=by
 have hf:=ht.fits
 obtain⟨hm,lh,G3,h5,_,_,_⟩:=ht
 have Kb:t.gaveWay=false:=by
  unfold SetTable.gaveWay
  rcases hm with e | e | e<;>rw[e]<;>rfl
 obtain⟨j,ej,hj⟩:=tJ (t:=t) (hashAt:=fun i=>(es[i]?.map (·.1)).getD 0) (h:=hk) hm G3 (by omega) fun i hi=>by
  rw[Array.getElem?_eq_getElem (by omega)]
  refine beq_eq_false_iff_ne.mpr fun z=>Ci (es[i]'(by omega)) (by rw[←Array.getElem_toList];exact List.getElem_mem _) z
 unfold setSearch setSearchFrom
 refine wpAny_bind (wpAny_setState_of ho hd hf ?_)
 dsimp only
 rw[Kb]
 simp only[Bool.false_eq_true,↓reduceIte]
 refine wpAny_bind (wpAny_pure ?_)
 split
 ·rename_i met heq
  have e:met= .empty j none:=Option.some.inj (heq.symm.trans ej)
  subst e
  exact wpAny_pure (h j hj)
 ·rename_i qD
  exact absurd ej (qD _)
theorem rM{a:Addr}{o:Obj}{es:Array (Int×Value)}{ep n:Nat}{t:SetTable}{Q:Unit→Shared→Prop}(ho:s.heap.get? a=some o)(hex:o.ExactSet)(hd:o.data= .set es ep t)(hf:t.fits es.size=true)(Hi:t.plain=true)(hm:zq (sizeAbove n - 1))(h5:5*es.size<3*(sizeAbove n - 1))
 (h:∀h',Heap.SameBut a s.heap h'→SetH t.led h' a es.toList→Q () {s with heap:=h'}):wpAny (model prog w) A (setRelay a n) Q E s:=by
 obtain⟨t',order,e1,e2,e3,e4,e5,e6,e7,e8⟩:=z9 (m:=sizeAbove n - 1) (f:=t.finger) (mv:=t.movedTo (sizeAbove n - 1)) (led:=t.led) (pl:=t.plain) hm (hs:=es.map (·.1)) (by rw[Array.size_map];omega)
 rw[Array.size_map] at e4 e5
 have ux:(order.filterMap (es[·]?)).toList.Perm es.toList:=by
  rw[Array.toList_filterMap]
  have:=e5.filterMap (fun i=>es[i]?)
  rwa [filterMap_getElem?_range] at this
 have hsz:(order.filterMap (es[·]?)).size=es.size:=by rw[←Array.length_toList,ux.length_eq,Array.length_toList]
 have JY:sizeAbove n≤128:=by rcases hm with e | e | e<;>omega
 unfold setRelay
 refine wpAny_bind (wpAny_setState_of ho hd hf ?_)
 dsimp only
 rw[if_neg (by rw[sizeLine_eq];omega)]
 have hr:t.relaid (es.map (·.1)) n=some (t',order):=e1
 rw[hr]
 refine wpAny_bind (wpAny_of_eq (a:=(order.filterMap (es[·]?),t')) ?_ ?_)
 ·show (if ((order.filterMap (es[·]?)).size !=es.size)=true then(do (unsupported "internal:set-table-lost-an-element":Sem PUnit);pure (order.filterMap (es[·]?),t')) else pure (order.filterMap (es[·]?),t'))=_
  rw[hsz,bne_self_eq_false]
  rfl
 ·dsimp only
  refine wpAny_storeSet_of ho hd (h _ (Heap.SameBut.update ..) ?_) (by rw[hsz,sizeLine_eq];rcases hm with e | e | e<;>omega)
  have hg:(s.heap.update a (Obj.putSet (order.filterMap (es[·]?)) t')).get? a=some {o with data:= .set (order.filterMap (es[·]?)) (ep+1) t'}:=by
   have:=Heap.get?_update_self (Obj.putSet (order.filterMap (es[·]?)) t') ho (by rw[putSet_of _ t' hd];rfl)
   rw[putSet_of _ t' hd] at this;exact this
  exact⟨_,_,ep+1,t',hg,hex,rfl,ux,by rw[e2];exact hm,by rw[hsz];exact e4,e3,by rw[hsz,e2];exact h5,e6.trans Hi,e7,e8⟩
theorem zD:sizeAbove (grown 5)=32:=by decide
theorem wR:sizeAbove (grown 19)=128:=by decide
theorem iU{a b:Addr}{ks:List Int}{hk:Int}{ld:Bool}{xs:List (Int×Value)}{Q:Bool→Shared→Prop}(Ca:IsTupleKey (intKind prog w) s.heap ks b)(hS:SetH ld s.heap a xs)(Ci:hk∉xs.map (·.1))(hl:xs.length<64)
 (h:∀h',Heap.SameBut a s.heap h'→SetH ld h' a (xs++[(hk, .ref b)])→Q true {s with heap:=h'}):wpAny (model prog w) A (setAddHashed a (.ref b) hk) Q E s:=by
 obtain⟨o,es,ep,t,ho,hex,hd,hp,ht⟩:=hS
 have hf:=ht.fits
 have hsz:es.size=xs.length:=by rw[←Array.length_toList,hp.length_eq]
 unfold setAddHashed setAddHashedIn
 refine wpAny_holding (wpAny_bind (wpAny_setState_of ho hd hf ?_))
 dsimp only
 have JZ:byScan (.ref b) es=false:=rfl
 rw[JZ]
 simp only[Bool.false_eq_true,↓reduceIte]
 refine wpAny_bind (mU ho hd ht (fun e he z=>Ci (List.mem_map.mpr ⟨e,hp.mem_iff.mp he,z⟩)) fun j G4=>?_)
 obtain⟨hm,lh,G3,h5,Hi,Cc,Kp⟩:=ht
 dsimp only
 refine wpAny_bind (wpAny_setState_of ho hd hf ?_)
 dsimp only
 have Cq:(t.put j).1.mask=t.mask∧(t.put j).1.place.size=es.size+1∧(t.put j).1.dummies= #[]∧(t.put j).1.plain=true∧(t.put j).1.led=ld∧(t.put j).1.place.toList.Pairwise (· < ·):=by
  refine⟨rfl,?_,?_,Hi,Cc,yY Kp G4⟩
  ·show (insertAt t.place (below t.place j) j).size=_
   rw[gZ,lh]
  ·show (if has t.dummies j then eraseAt t.dummies (below t.dummies j) else t.dummies)= #[]
   rw[G3]
   rfl
 have fin:wpAny (model prog w) A (do
  storeSet a (insertAt es (t.put j).2 (hk, .ref b)) (t.put j).1
  if (!false&&(t.put j).1.tooFull)=true then do
      setRelay a (grown (es.size+1))
      pure true
   else pure true) Q E s:=by
  obtain⟨q1,q2,q3,q4,q5,q6⟩:=Cq
  generalize (t.put j).1=t1 at q1 q2 q3 q4 q5 q6
  have E4:=gZ es (t.put j).2 (hk,Value.ref b)
  have Hh:(insertAt es (t.put j).2 (hk,Value.ref b)).toList.Perm (xs++[(hk, .ref b)]):=by
   refine(insertAt_perm es _ _).trans ?_
   rw[Array.toList_push]
   exact hp.append_right _
  generalize insertAt es (t.put j).2 (hk,Value.ref b)=Bn at E4 Hh
  have hg:(s.heap.update a (Obj.putSet Bn t1)).get? a=some {o with data:= .set Bn (ep+1) t1}:=by
   have:=Heap.get?_update_self (Obj.putSet Bn t1) ho (by rw[putSet_of _ t1 hd];rfl)
   rw[putSet_of _ t1 hd] at this;exact this
  have zB:=Heap.SameBut.update s.heap a (Obj.putSet Bn t1)
  have Le:t.mask≤127:=by rcases hm with e | e | e<;>omega
  refine wpAny_bind (wpAny_storeSet_of ho hd ?_ (by rw[sizeLine_eq];omega))
  have xF:t1.fill=es.size+1:=by unfold fill;rw[q2,q3];rfl
  by_cases fo:t1.tooFull=true
  ·rw[fo]
   simp only[Bool.not_false,Bool.and_self,↓reduceIte]
   unfold tooFull at fo
   rw[xF,q1] at fo
   have fo:t.mask*3≤(es.size+1)*5:=of_decide_eq_true fo
   have J6:t1.fits Bn.size=true:=by
    unfold SetTable.fits
    rw[xF,q2,q1,E4]
    simp
    omega
   have hr:zq (sizeAbove (grown (es.size+1)) - 1)∧5*Bn.size<3*(sizeAbove (grown (es.size+1)) - 1):=by
    rw[E4]
    rcases hm with e | e | e
    ·have:es.size=4:=by omega
     rw[this,zD]
     exact⟨.inr (.inl rfl),by decide⟩
    ·have:es.size=18:=by omega
     rw[this,wR]
     exact⟨.inr (.inr rfl),by decide⟩
    ·omega
   refine wpAny_bind (rM (o:={o with data:= .set Bn (ep+1) t1}) hg hex rfl J6 q4 hr.1 hr.2 fun h' zV B5=>wpAny_pure (h h' (zB.trans zV) ?_))
   obtain⟨o2,JG,JF,t2,k1,k2,k3,k4,k5⟩:=B5
   exact⟨o2,JG,JF,t2,k1,k2,k3,k4.trans Hh,q5▸k5⟩
  ·have fo:t1.tooFull=false:=by simpa using fo
   rw[fo]
   simp only[Bool.not_false,Bool.and_false,Bool.false_eq_true,↓reduceIte]
   unfold tooFull at fo
   rw[xF,q1] at fo
   have fo:¬t.mask*3≤(es.size+1)*5:=of_decide_eq_false fo
   exact wpAny_pure (h _ zB ⟨_,Bn,ep+1,t1,hg,hex,rfl,Hh,by rw[q1];exact hm,by rw[q2,E4],q3,by rw[E4,q1];omega,q4,q5,q6⟩)
 split
 ·refine wpAny_bind (iB Ca ?_)
  exact fin
 ·refine wpAny_bind (wpAny_pure ?_)
  exact fin
end
theorem SetH.at{ld:Bool}{h h':Heap}{a:Addr}{xs:List (Int×Value)}(x:SetH ld h a xs)(e:∀o,h.get? a=some o→h'.get? a=some o):SetH ld h' a xs:=
 let ⟨o,es,ep,t,ho,r⟩:=x
 ⟨o,es,ep,t,e o ho,r⟩
theorem jC{prog:Program}{w:World}{h h':Heap}{ks:List Int}{b:Addr}(x:IsTupleKey (intKind prog w) h ks b)(e:∀o,h.get? b=some o→h'.get? b=some o):IsTupleKey (intKind prog w) h' ks b:=
 let ⟨o,items,n,ho,r⟩:=x
 ⟨o,items,n,e o ho,r⟩
section
variable{prog:Program}{w:World}{A:Around}{R:Result→Shared→Prop}{I:Addr}{fp wr:List Addr}{G:Array GenState→Array GenState→Prop}{n:Nat}{P:Nat→Value→Prop}{St:Nat→Shared→Prop}{ld:Bool}
def vQ(prog:Program)(w:World)(ks:Nat→List Int)(ad:Nat→Addr)(i:Nat):List (Int×Value):=(List.range i).map fun j=>(tupleKeyHash (intKind prog w) (ks j), .ref (ad j))
theorem y8(W:WalksS prog w A.in1 I fp wr G n P St)(S:Addr)(F_:S∉fp)(ks:Nat→List Int)(ad:Nat→Addr)(Ho:∀i v,P i v→v= .ref (ad i))(mx:∀i,i<n→ad i≠S∧ad i∉wr)(hu:A.in1.units<cLine)(hn:n≤64)
 (E1:((List.range n).map fun i=>tupleKeyHash (intKind prog w) (ks i)).Nodup):∀(k i:Nat) (s:Shared),n - i=k→i≤n→St i s→(∀j,j<n→IsTupleKey (intKind prog w) s.heap (ks j) (ad j))→SetH ld s.heap S (vQ prog w ks ad i)→
  (∀s',Moved (S::wr) G s s'→SetH ld s'.heap S (vQ prog w ks ad n)→R (.ok (.ret .none)) s')→codeAny (model prog w) A (.builtin "set.update.loop" ⟨[.ref S, .ref I],[]⟩) R s:=by
 have IG:S∉wr:=fun h=>F_ (W.sub _ h)
 have zY:∀b∈wr,b∈S::wr:=fun b hb=>List.mem_cons_of_mem _ hb
 intro k
 induction k with
 |zero=>
  intro i s hk hi qF hT hS hR
  obtain rfl:i=n:=by omega
  refine codeAny_builtin PyProof.Rows.F.entry_set_update_loop ?_
  rw[Around.under_plainId PyProof.Rows.F.plain_set_update_loop _]
  show wpAny _ A.in1 (pyNext (.ref I)>>=_) _ _ s
  refine wpAny_bind (W.done s _ _ qF fun s' hm=>?_)
  show wpAny _ A.in1 (ret Value.none) _ _ s'
  exact wpAny_pure (hR s' (hm.mono zY) (hS.at fun o e=>hm.heap S o IG e))
 |succ k ih=>
  intro i s hk hi qF hT hS hR
  have dz:i<n:=by omega
  refine codeAny_builtin PyProof.Rows.F.entry_set_update_loop ?_
  rw[Around.under_plainId PyProof.Rows.F.plain_set_update_loop _]
  show wpAny _ A.in1 (pyNext (.ref I)>>=_) _ _ s
  refine wpAny_bind (W.item i s _ _ dz qF fun v s' hP Hm hm=>?_)
  have ev:=Ho i v hP
  subst ev
  have B5:SetH ld s'.heap S (vQ prog w ks ad i):=hS.at fun o e=>hm.heap S o IG e
  have GU:∀j,j<n→IsTupleKey (intKind prog w) s'.heap (ks j) (ad j):=fun j hj=>jC (hT j hj) fun o e=>hm.heap _ o (mx j hj).2 e
  show wpAny _ A.in1 (holding [Value.ref (ad i)] (setAdd S (.ref (ad i)))>>=_) _ _ s'
  refine wpAny_bind (wpAny_holding ?_)
  unfold setAdd
  refine wpAny_holding (wpAny_bind (wpAny_pyHash_tuple hu (GU i dz) ?_))
  refine iU (s:={s' with toks:=s'.toks+((ks i).length+1)}) (GU i dz) B5 (fun D1=>?_) (by unfold vQ;rw[List.length_map,List.length_range];omega) fun h' zB IF=>?_
  ·unfold vQ at D1
   rw[List.map_map] at D1
   obtain⟨j,hj,e⟩:=List.mem_map.mp D1
   have hj:=List.mem_range.mp hj
   have h1:((List.range n).map fun i=>tupleKeyHash (intKind prog w) (ks i))[j]? =some (tupleKeyHash (intKind prog w) (ks j)):=by rw[List.getElem?_map,List.getElem?_range (by omega)];rfl
   have h2:((List.range n).map fun i=>tupleKeyHash (intKind prog w) (ks i))[i]? =some (tupleKeyHash (intKind prog w) (ks j)):=by rw[List.getElem?_map,List.getElem?_range dz];exact congrArg some (show _=_ from e).symm
   have:=(List.getElem?_inj (i:=j) (j:=i) (by simp;omega) E1).mp (h1.trans h2.symm)
   omega
  have JT:SetH ld h' S (vQ prog w ks ad (i+1)):=by
   unfold vQ at IF⊢
   rw[List.range_succ,List.map_append]
   exact IF
  have HJ:∀b o,b≠S→s'.heap.get? b=some o→h'.get? b=some o:=fun b o hb e=>(zB.2 b hb).trans e
  refine wpAny_pure ⟨plainId_quiet PyProof.Rows.F.plain_set_update_loop _,ih (i+1) _ (by omega) dz (W.frame _ s' _ _ Hm (Nat.le_add_right ..) fun b hb o e=>HJ b o (fun z=>F_ (z▸hb)) e) (fun j hj=>jC (GU j hj) fun o e=>HJ _ o (mx j hj).1 e) JT fun FK Ha GS=>?_⟩
  exact hR FK (Moved.trans W.gtrans ((hm.mono zY).then_heap (Nat.le_add_right ..) fun b o hb e=>HJ b o (fun z=>hb (z▸List.mem_cons_self ..)) e) Ha) GS
end
def iD(w:World):Bool:=!w.params.followText "set-order"
section
variable{prog:Program}{w:World}{A:Around}{E:Value→Shared→Prop}{s:Shared}
theorem rN(a:Value){Q₁:Value→Shared→Prop}(h:Q₁ (.ref s.heap.objs.size) {s with heap:=s.heap.push {cls:= .type "set",dict:=none,data:= .set #[] 0 (.fresh 0 0 (iD w))} }):
 codeAny (model prog w) A (.call (.builtin "set.__new__") ⟨[.type "set",a],[]⟩) (wants Q₁ E) s:=by
 refine codeAny_of_tree (show wpAny _ A.in1 (do checkBuiltinCall "set.__new__" ⟨[.type "set",a],[]⟩;again (.builtin "set.__new__" ⟨[.type "set",a],[]⟩)) _ _ s from ?_)
 refine wpAny_bind (wpAny_of_eq (F.newCall_set_1 a) (wpAny_pure ⟨plainId_quiet F.plain_set_new _,codeAny_builtin F.entry_set_new ?_⟩))
 rw[Around.under_plainId F.plain_set_new _]
 unfold Builtin.«set.__new__» Builtin.Frozenset.newClass
 have zY:=sub_set_self
 obtain⟨hp,g,d,tk,os⟩:=s
 dsimp only
 wp_walk
 refine wpAny_askSetting (wpAny_pure ?_)
 simp only[newObj]
 exact wpAny_bind (wpAny_alloc (wpAny_pure (wpAny_pure h)))
end
section
variable{prog:Program}{w:World}{A:Around}{E:Value→Shared→Prop}{s:Shared}
set_option maxHeartbeats 3200000 in
theorem mC{l:Addr}{items:Array Value}{ks:Nat→List Int}{ad:Nat→Addr}{Q:Value→Shared→Prop}(hh:A.handled=none)(hu:A.units+8<cLine)(hl:s.heap.IsList l items)(hi:∀i,i<items.size→items[i]? =some (.ref (ad i)))
 (hT:∀j,j<items.size→IsTupleKey (intKind prog w) s.heap (ks j) (ad j))(hn:items.size≤64)(E1:((List.range items.size).map fun i=>tupleKeyHash (intKind prog w) (ks i)).Nodup)
 (h:∀(h':Heap) (tk:Nat),SetH (iD w) h' s.heap.objs.size (vQ prog w ks ad items.size)→(∀b o,b<s.heap.objs.size→s.heap.get? b=some o→h'.get? b=some o)→Q (.ref s.heap.objs.size) {s with heap:=h',toks:=tk}):
 wpAny (model prog w) A (call (.type "set") [.ref l]) Q E s:=by
 obtain⟨c,tl,Kk⟩:=F.called_set.mro
 have IW:=F.called_set.made
 have zY:=F.called_set.sub
 refine wpAny_call (codeAny_of_tree ?_)
 show wpAny _ _ (callAny (.type "set") _) _ _ _
 refine wpAny_pure ⟨Code.quiet_builtin _ (by decide+kernel),codeAny_builtin F.entry_type_call ?_⟩
 rw[Around.under_plain (weight_type_call_type "set" [.ref l] []) rfl]
 have h1:=F.called_set.notType
 have h2:=F.called_set.canCreate
 have K9:=F.typeCall_set_1 (.ref l)
 repeat (any_goals (first | assumption | wp_step))
 refine codeAny_mono (rN (.ref l) (E:=E) (Q₁:=fun obj s₁=>∃led:Bool,led=iD w∧obj= .ref s.heap.objs.size∧s₁={s with heap:=s.heap.push {cls:= .type "set",dict:=none,data:= .set #[] 0 (.fresh 0 0 led)} }) ⟨_,rfl,rfl,rfl⟩) fun r s₁ hr=>?_
 cases r with
 |error e=>exact hr
 |ok fl=>
  cases fl with
  |ret obj=>
   obtain⟨led,Cc,rfl,rfl⟩:=hr
   have hS:(s.heap.push {cls:= .type "set",dict:=none,data:= .set #[] 0 (.fresh 0 0 led)}).get? s.heap.objs.size=some {cls:= .type "set",dict:=none,data:= .set #[] 0 (.fresh 0 0 led)}:=Heap.get?_push_size _ rfl
   have JU:Shared.TypeIs {s with heap:=s.heap.push {cls:= .type "set",dict:=none,data:= .set #[] 0 (.fresh 0 0 led)} } (.ref s.heap.objs.size) "set":=⟨_,hS,rfl⟩
   have Lc:=F.called_set.init.lookup
   have II:=F.called_set.init.bind (.ref s.heap.objs.size)
   repeat (any_goals (first | assumption | wp_step))
   refine codeAny_mono (codeAny_call_builtin (R:=wants (fun r s₂=>r= .none∧∃h' tk,s₂={s with heap:=h',toks:=tk}∧SetH (iD w) h' s.heap.objs.size (vQ prog w ks ad items.size)∧(∀b o,b<s.heap.objs.size→s.heap.get? b=some o→h'.get? b=some o)) E) F.called_set.init.plain F.entry_set_init (check_set_init_1 JU ?_)) fun r₂ s₂ Hk=>?_
   ·obtain⟨ol,I9,EL,nl,IK⟩:=hl
    obtain⟨KO,Fl,Jm,C2⟩:=ol
    simp only at EL IK
    subst EL;subst IK
    have Hg:(s.heap.push {cls:= .type "set",dict:=none,data:= .set #[] 0 (.fresh 0 0 led)}).get? l=some {cls:= .type "list",dict:=Fl,data:= .seq items nl,slots:=C2}:=Heap.get?_push_of_some _ I9
    have Ks:=F.sub_list_set
    have Kr:=F.sub_list_frozenset
    have mx:(Value.type "list"==Value.type "dict")=false:=by decide
    have zy:(s.heap.push {cls:= .type "set",dict:=none,data:= .set #[] 0 (.fresh 0 0 led)}).IsList l items:=⟨_,Hg,rfl,nl,rfl⟩
    unfold Builtin.«set.__init__» noKeywords Builtin.Frozenset.updateFrom
    generalize JQ:pyIter=PI
    wp_walk
    subst JQ
    refine wpAny_pyIter_list zy (wpAny_bind (wpAny_runValue ?_))
    have IT:l<s.heap.objs.size:=Heap.lt_size I9
    have Kd:A.in1.in1.in1.handled=none:=by simp[hh]
    have Hb:l≠(s.heap.push {cls:= .type "set",dict:=none,data:= .set #[] 0 (.fresh 0 0 led)}).objs.size:=by
     rw[Heap.size_push];exact Nat.ne_of_lt (Nat.lt_succ_of_lt IT)
    have F_:s.heap.objs.size∉[(s.heap.push {cls:= .type "set",dict:=none,data:= .set #[] 0 (.fresh 0 0 led)}).objs.size,l]:=by
     rw[Heap.size_push];simp only[List.mem_cons,List.mem_singleton,List.not_mem_nil,or_false,not_or]
     exact⟨Nat.ne_of_lt (Nat.lt_succ_self _),Nat.ne_of_gt IT⟩
    have GX:∀i,i<items.size→ad i<s.heap.objs.size:=fun i qa=>let ⟨o,_,_,ho,_⟩:=hT i qa;Heap.lt_size ho
    refine y8 (ld:=iD w) ((Walks.list Kd _ l Hb items).toS) s.heap.objs.size F_ ks ad (fun i v hv=>?_) (fun i qa=>?_) ?_ hn E1 (items.size - 0) 0 _ (by omega) (Nat.zero_le _) ⟨⟨_,Heap.get?_push_size _ rfl,rfl,rfl⟩,(zy.push _)⟩ (fun j hj=>jC (hT j hj) fun o e=>Heap.get?_push_of_some _ (Heap.get?_push_of_some _ e)) ?hS0 ?hR
    case hS0=>exact⟨_,#[],0,_,Heap.get?_push_of_some _ hS,⟨rfl,rfl,rfl⟩,rfl, .refl _, .inl rfl,rfl,rfl,by show 5*0<3*7;decide,rfl,Cc,List.Pairwise.nil⟩
    case hR=>
     intro s' hm B5
     obtain⟨h',g',d',K2,HI⟩:=s'
     obtain rfl:g'=s.gens:=hm.gens
     obtain rfl:d'=s.drawn:=hm.drawn
     obtain rfl:HI=s.os:=hm.os
     show wpAny _ _ _ _ _ _
     refine wpAny_pure ?_
     show wpAny _ _ (ret Value.none) _ _ _
     refine wpAny_pure ⟨rfl,h',K2,rfl,B5,fun b o hb e=>?_⟩
     have JW:b≠s.heap.objs.size:=Nat.ne_of_lt hb
     have EJ:b≠(s.heap.push {cls:= .type "set",dict:=none,data:= .set #[] 0 (.fresh 0 0 led)}).objs.size:=by
      rw[Heap.size_push];exact Nat.ne_of_lt (Nat.lt_succ_of_lt hb)
     exact hm.heap b o (by simp only[List.mem_cons,List.mem_singleton,List.not_mem_nil,or_false,not_or];exact⟨JW,EJ⟩) (Heap.get?_push_of_some _ (Heap.get?_push_of_some _ e))
    ·have dz:i<items.size:=(Array.getElem?_eq_some_iff.mp hv).1
     exact Option.some.inj ((show items[i]? =some v from hv).symm.trans (hi i dz))
    ·have:=GX i qa
     refine⟨Nat.ne_of_lt this,?_⟩
     rw[Heap.size_push]
     simp only[List.mem_cons,List.mem_singleton,List.not_mem_nil,or_false]
     exact Nat.ne_of_lt (Nat.lt_succ_of_lt this)
    ·show A.units+1+1+1<cLine
     omega
   ·cases r₂ with
    |error e=>exact Hk
    |ok JK=>
     cases JK with
     |ret r=>
      obtain⟨rfl,h',tk,rfl,B5,uw⟩:=Hk
      repeat (any_goals (first | assumption | wp_step))
      exact h _ _ B5 uw
     |_=>exact Hk.elim
  |_=>exact hr.elim
end
end L3
namespace L3
open PySem PySem.Spec L2 HT
open PyProof.Rows hiding St
theorem items_int{P:Program}{w:World}:∀{us:List Value}{ns:List Int},IntsAre us ns→ItemsAre (intKind P w) ns us
 |_,_, .nil=> .nil
 |_,_, .cons n t h=> .cons (intKind_is _ _ _ _) (items_int h)
def wV:V→Addr
 | .ref a=>a
 |_=>0
theorem rC{X:Cx}{pins:List (Addr×Obj)}{σ:St}{H:Hp}{s:Shared}(I:Inv X pins σ H s){vs:List V}{aA:List Value}{ks:List (List Int)}(hr:bS H vs ks)(rv:Vals vs aA){i:Nat}(hi:i<aA.toArray.size):
 aA.toArray[i]? =some (.ref (wV (vs.getD i .non)))∧IsTupleKey (intKind X.prog X.w) s.heap (ks.getD i []) (wV (vs.getD i .non)):=by
 have hl:=rv.length
 have qa:i<aA.length:=by simpa using hi
 obtain⟨a,e1,e2⟩:=iQ hr (i:=i) (by omega)
 have r:=jF i rv (by omega)
 rw[e1] at r⊢
 have r:aA.getD i Value.none= .ref a:=r
 refine⟨?_,?_⟩
 ·rw[List.getD_eq_getElem?_getD,List.getElem?_eq_getElem qa,Option.getD_some] at r
  rw[List.getElem?_toArray,List.getElem?_eq_getElem qa,r]
  rfl
 ·obtain⟨us,ru,pt,_⟩:=I.tuple (SqT.of (K:=X.K) e2)
  obtain⟨o,q1,q2,m,q3⟩:=pt
  exact⟨o,us.toArray,m,q1,q2,q3,by simpa using items_int (intsAre_of ru)⟩
section
variable{X:Cx}{Xw:Nat→Hp→Prop}{e:Expr}{δ:DE}{pos rq p p2:Pos}
theorem y9{pins:List (Addr×Obj)}{σ:St}{H:Hp}{s:Shared}{Q:Value→Shared→Prop}{E:Value→Shared→Prop}(I:Inv X pins σ H s)(hc:X.calm=true)(hu:X.A.units+64<cLine){a:Addr}{ws:List V}{ks:List (List Int)}(hl:SqL X.K H a ws)(hr:bS H ws ks)(hn:ks.length≤64)(E1:(ks.map ny).Nodup)
 (h:∀h' tk,SetH (iD X.w) h' s.heap.objs.size (vQ X.prog X.w (fun i=>ks.getD i []) (fun i=>wV (ws.getD i .non)) ks.length)→(∀b o,s.heap.get? b=some o→h'.get? b=some o)→Q (.ref s.heap.objs.size) {s with heap:=h',toks:=tk}):
 wpAny (model X.prog X.w) X.A (call (.type "set") [.ref a]) Q E s:=by
 obtain⟨aA,rv,pl,hz⟩:=I.list hl
 have h1:=eG hr
 have h2:=rv.length
 have hsz:aA.toArray.size=ks.length:=by rw[List.size_toArray];omega
 refine mC (items:=aA.toArray) (ks:=fun i=>ks.getD i []) (ad:=fun i=>wV (ws.getD i .non)) (I.ok.hd hc) (by omega) pl.isList (fun i hi=>(rC I hr rv hi).1) (fun i hi=>(rC I hr rv hi).2) (by omega) ?_ fun h' tk hS hk=>?_
 ·rw[hsz]
  have e:((List.range ks.length).map fun i=>tupleKeyHash (intKind X.prog X.w) (ks.getD i []))=ks.map ny:=by
   refine List.ext_getElem (by simp) fun i h1 h2=>?_
   have hi:i<ks.length:=by simpa using h1
   rw[List.getElem_map,List.getElem_map,List.getElem_range,List.getD_eq_getElem?_getD,List.getElem?_eq_getElem hi]
   rfl
  rw[e]
  exact E1
 ·rw[hsz] at hS
  exact h h' tk hS fun b o q=>hk b o (Heap.lt_size q) q
end
end L3
namespace L3
open PySem PySem.SetTable PySem.W PyProof.Rows
theorem cg:Slot "set_iterator" "__next__" "set_iterator.__next__":=
 .of (owner:="set_iterator") (n:="__next__") (by rw[typeLookup_type,builtinLookup_eq_fast];kernel_rfl) (by decide+kernel) (by decide+kernel) (by decide+kernel) (by first | exact .inl (by decide+kernel) | exact .inr (by decide+kernel)) (by rw[isSubtype_type];kernel_rfl)
theorem iW:Slot "set_iterator" "__iter__" "set_iterator.__iter__":=
 .of (owner:="set_iterator") (n:="__iter__") (by rw[typeLookup_type,builtinLookup_eq_fast];kernel_rfl) (by decide+kernel) (by decide+kernel) (by decide+kernel) (by first | exact .inl (by decide+kernel) | exact .inr (by decide+kernel)) (by rw[isSubtype_type];kernel_rfl)
theorem rh:Manifest.owners.lookup (String.ofList ['r', 'o', 't', 'a', 'r', 'e', 't', 'i', '_', 't', 'e', 's'].reverse)=some Manifest.sig_set_iterator:=by kernel_rfl
theorem ik(a:Value):argsOk "set_iterator.__next__" ⟨[a],[]⟩:=by
 unfold argsOk
 rw[signature?_of (id:="set_iterator.__next__") (n:=['_', '_', 't', 'x', 'e', 'n', '_', '_']) (o:=['r', 'o', 't', 'a', 'r', 'e', 't', 'i', '_', 't', 'e', 's']) (by kernel_rfl) rh]
 kernel_rfl
theorem oz(a:Value):argsOk "set_iterator.__iter__" ⟨[a],[]⟩:=by
 unfold argsOk
 rw[signature?_of (id:="set_iterator.__iter__") (n:=['_', '_', 'r', 'e', 't', 'i', '_', '_']) (o:=['r', 'o', 't', 'a', 'r', 'e', 't', 'i', '_', 't', 'e', 's']) (by kernel_rfl) rh]
 kernel_rfl
theorem gN:entryFor table "set_iterator.__next__"=some Builtin.«set_iterator.__next__» :=entryFor_of_tree (by kernel_rfl)
theorem k9:entryFor table "set.__iter__"=some Builtin.«frozenset.__iter__» :=entryFor_alias (id':="frozenset.__iter__") (by kernel_rfl) rfl (by decide+kernel) (by kernel_rfl)
theorem mF:entryFor table "set_iterator.__iter__"=some Builtin.«dict_keyiterator.__iter__» :=entryFor_alias (id':="dict_keyiterator.__iter__") (by kernel_rfl) rfl (by decide+kernel) (by kernel_rfl)
def IsSI(h:Heap)(it a:Addr)(sl k n ep:Nat):Prop:=∃o,h.get? it=some o∧o.cls= .type "set_iterator"∧o.data= .fields #[rawInt sl,rawInt k, .ref a,rawInt n,rawInt ep]
theorem IsSI.typeIs{s:Shared}{it a:Addr}{sl k n ep:Nat}(x:IsSI s.heap it a sl k n ep):s.TypeIs (.ref it) "set_iterator":=let ⟨o,ho,hc,_⟩:=x;⟨o,ho,hc⟩
theorem IsSI.at{h h':Heap}{it a:Addr}{sl k n ep:Nat}(x:IsSI h it a sl k n ep)(e:∀o,h.get? it=some o→h'.get? it=some o):IsSI h' it a sl k n ep:=let ⟨o,ho,r⟩:=x;⟨o,e o ho,r⟩
def iJ(w:World)(a:Addr)(ep:Nat)(es:Array (Int×Value)):Array (Int×Value):=if w.params.followText "set-order" then pickOrder (w.params.setOrder a ep) es else es
def eJ(w:World)(t:SetTable)(k:Nat):Nat:=if w.params.followText "set-order" then 0 else slotAt t.place k
section
variable{prog:Program}{w:World}{A:Around}{E:Value→Shared→Prop}{s:Shared}{a:Addr}{o:Obj}{es:Array (Int×Value)}{ep:Nat}{t:SetTable}
theorem xT{Q:Value→Shared→Prop}(ho:s.heap.get? a=some o)(hex:o.ExactSet)(hd:o.data= .set es ep t)(ht:TabOk t es.size (iD w))
 (hQ:Q (.ref s.heap.objs.size) {s with heap:=s.heap.push {cls:= .type "set_iterator",data:= .fields #[rawInt 0,rawInt 0, .ref a,rawInt es.size,rawInt ep]} }):wpAny (model prog w) A (pyIter (.ref a)) Q E s:=by
 have hT:s.TypeIs (.ref a) "set":=⟨o,ho,hex.1⟩
 have hf:=ht.fits
 refine wpAny_pyIter_slot hT F.slot_set_iter (wpAny_call_entry F.slot_set_iter hT k9 ?_ (F.args_set_iter_1 _))
 unfold Builtin.«frozenset.__iter__» Builtin.Frozenset.slot0 slotArgs
 simp only[List.isEmpty_nil,Bool.not_true,Bool.false_eq_true,↓reduceIte,bind_assoc,List.length_nil,bne_self_eq_false]
 unfold Builtin.Frozenset.addrOf Builtin.Frozenset.sizeOf
 refine wpAny_bind (wpAny_pure ?_)
 try dsimp only
 refine wpAny_bind (wpAny_pure ?_)
 refine wpAny_bind (wpAny_bind (wpAny_setEntries_of ho hd hf (wpAny_pure ?_)))
 unfold setDrawn setsByText
 refine wpAny_bind (wpAny_bind (wpAny_setState_of ho hd hf (wpAny_bind (wpAny_bind (wpAny_askSetting (wpAny_pure (wpAny_pure ?_)))))))
 refine wpAny_ite_split (fun EF=>?_) fun _=>?_
 ·have EG:(!w.params.followText "set-order" &&(!t.plain&&decide (es.size>1)))=true:=EF
  rw[ht.plain] at EG
  simp at EG
 ·refine wpAny_bind (wpAny_pure (wpAny_bind (wpAny_setEpoch_of ho hd hf ?_)))
  unfold newFields
  exact wpAny_bind (wpAny_newObj_type (wpAny_pure ⟨_,rfl,"set_iterator",_,⟨_,Heap.get?_push_size _ rfl,rfl⟩,cg.lookup,hQ⟩))
theorem y7{it:Addr}{sl k n:Nat}{Q:Value→Shared→Prop}(hit:IsSI s.heap it a sl k n ep)(h:Q (.ref it) s):wpAny (model prog w) A (pyIter (.ref it)) Q E s:=by
 refine wpAny_pyIter_slot hit.typeIs iW (wpAny_call_entry iW hit.typeIs mF ?_ (oz _))
 show wpAny _ _ (ret (.ref it)) _ _ s
 exact wpAny_pure ⟨_,rfl,"set_iterator",_,hit.typeIs,cg.lookup,h⟩
theorem me{k:Nat}{Q:Option (Value×Nat)→Shared→Prop}(ho:s.heap.get? a=some o)(hd:o.data= .set es ep t)(ht:TabOk t es.size (iD w))(hk:k≤es.size)
 (h:Q ((iJ w a ep es)[k]?.map fun e=>(e.2,eJ w t (k+1))) s):wpAny (model prog w) A (setNext a (eJ w t k) k ep) Q E s:=by
 have hf:=ht.fits
 unfold setNext setsByText
 refine wpAny_bind (wpAny_setState_of ho hd hf (wpAny_bind (wpAny_bind (wpAny_askSetting (wpAny_pure ?_)))))
 have hl:=ht.led
 unfold iJ eJ at h
 unfold eJ
 unfold iD at hl
 refine wpAny_ite_split (fun hb=>?_) fun hb=>?_
 ·have hb:w.params.followText "set-order"=true:=hb
  rw[if_pos hb,if_pos hb] at h
  dsimp only
  rw[bne_self_eq_false,if_neg (by decide),if_pos hb]
  unfold setWalk setsByText
  refine wpAny_bind (wpAny_bind (wpAny_setState_of ho hd hf (wpAny_bind (wpAny_bind (wpAny_askSetting (wpAny_pure ?_))))))
  refine wpAny_ite_split (fun _=>?_) fun qD=>absurd hb qD
  exact wpAny_bind (wpAny_askSetting (wpAny_pure (wpAny_pure h)))
 ·have hb:¬w.params.followText "set-order"=true:=hb
  have GZ:w.params.followText "set-order"=false:=by simpa using hb
  rw[if_neg hb,if_neg hb] at h
  rw[GZ] at hl
  dsimp only
  refine wpAny_ite_split (fun J1=>?_) fun _=>?_
  ·have EN:(!t.plain&&decide (es.size>1))=true:=J1
   rw[ht.plain] at EN
   simp at EN
  ·refine wpAny_bind (wpAny_of_eq (a:=()) ?_ ?_)
   ·show (if (!t.led&& !es.isEmpty)=true then(unsupported "set:maker-not-led":Sem Unit) else pure ())=_
    rw[hl]
    rfl
   ·rw[if_neg hb,below_at ht.rise (by rw[ht.size];exact hk)]
    refine wpAny_pure ?_
    by_cases dz:k<es.size
    ·have h1:es[k]? =some es[k]:=Array.getElem?_eq_getElem dz
     have h2:t.place[k]? =some (t.place[k]'(by rw[ht.size];exact dz)):=Array.getElem?_eq_getElem (by rw[ht.size];exact dz)
     have h3:slotAt t.place (k+1)=t.place[k]'(by rw[ht.size];exact dz)+1:=by
      show t.place.getD k 0+1=_
      rw[Array.getD_eq_getD_getElem?,h2]
      rfl
     rw[h1,h2]
     rw[h1,h3] at h
     exact h
    ·have h1:es[k]? =none:=Array.getElem?_eq_none (by omega)
     rw[h1]
     rw[h1] at h
     exact h
theorem n5{α:Type}(next:Nat→Nat):∀(fuel k:Nat) (left:List α) (out:Array α),left.length=fuel→(pickOrder.go next fuel k left out).toList.Perm (out.toList++left)
 |0,k,left,out,h=>by
  rw[List.length_eq_zero_iff.mp h,List.append_nil]
  exact .refl _
 |fuel+1,k,left,out,h=>by
  unfold pickOrder.go
  have hi:next k % left.length<left.length:=Nat.mod_lt _ (by omega)
  rw[List.getElem?_eq_getElem hi]
  dsimp only
  refine(n5 next fuel (k+1) _ _ (by rw[List.length_eraseIdx_of_lt hi];omega)).trans ?_
  rw[Array.toList_push,List.append_assoc]
  refine List.Perm.append_left _ ?_
  rw[List.eraseIdx_eq_take_drop_succ]
  have hp:=(List.perm_middle (a:=left[next k % left.length]) (l₁:=left.take (next k % left.length)) (l₂:=left.drop (next k % left.length+1))).symm
  rw[←List.drop_eq_getElem_cons hi,List.take_append_drop] at hp
  exact hp
theorem fV(w:World)(a:Addr)(ep:Nat)(es:Array (Int×Value)):(iJ w a ep es).toList.Perm es.toList:=by
 unfold iJ
 split
 ·exact(n5 _ es.size 0 es.toList #[] (Array.length_toList ..)).trans (by simp)
 ·exact .refl _
theorem yc{it:Addr}{k:Nat}{e:Int×Value}{Q:Option Value→Shared→Prop}(hit:IsSI s.heap it a (eJ w t k) k es.size ep)(mx:a≠it)(ho:s.heap.get? a=some o)(hd:o.data= .set es ep t)(ht:TabOk t es.size (iD w))(hx:(iJ w a ep es)[k]? =some e)
 (hQ:∀h',IsSI h' it a (eJ w t (k+1)) (k+1) es.size ep→Heap.SameBut it s.heap h'→Q (some e.2) {s with heap:=h'}):wpAny (model prog w) A (pyNext (.ref it)) Q E s:=by
 have hsz:(iJ w a ep es).size=es.size:=by rw[←Array.length_toList,(fV w a ep es).length_eq,Array.length_toList]
 have dz:k<es.size:=by rw[←hsz];exact(Array.getElem?_eq_some_iff.mp hx).1
 obtain⟨oi,D2,IJ,B9⟩:=id hit
 unfold pyNext
 refine wpAny_bind (wpAny_attempt (wpAny_callSpecial?_slot (name:=Str.ofString "__next__") hit.typeIs cg (wpAny_call_entry cg hit.typeIs gN ?_ (ik _))))
 unfold Builtin.«set_iterator.__next__» slotArgs
 simp only[List.isEmpty_nil,Bool.not_true,Bool.false_eq_true,↓reduceIte,bind_assoc,List.length_nil,bne_self_eq_false]
 refine wpAny_bind (wpAny_pure (wpAny_bind (wpAny_fieldsOf D2 B9 ?_)))
 simp only[rawInt]
 refine wpAny_bind (wpAny_setEntries_of ho hd ht.fits ?_)
 rw[if_neg (by simp)]
 simp only[Int.toNat_natCast]
 refine wpAny_bind (me ho hd ht (Nat.le_of_lt dz) ?_)
 rw[hx]
 show wpAny _ _ (setField (.ref it) 0 (rawInt ((eJ w t (k+1):Nat):Int))>>=_) _ _ s
 refine wpAny_bind (wpAny_setField D2 B9 (by simp) ?_)
 have h1:(s.heap.update it (Obj.mapFields (·.setIfInBounds 0 (rawInt ((eJ w t (k+1):Nat):Int))))).get? it=some (Obj.mapFields (·.setIfInBounds 0 (rawInt ((eJ w t (k+1):Nat):Int))) oi):=Heap.get?_update_self _ D2 (Obj.isFreed_of_fields (Obj.data_mapFields B9 _))
 have d1:=Obj.data_mapFields B9 (·.setIfInBounds 0 (rawInt ((eJ w t (k+1):Nat):Int)))
 show wpAny _ _ (setField (.ref it) 1 (rawInt ((k:Int)+1))>>=_) _ _ _
 refine wpAny_bind (wpAny_setField h1 d1 (by simp) ?_)
 refine wpAny_pure ⟨_,rfl,wpAny_pure (hQ _ ⟨_,Heap.get?_update_self _ h1 (Obj.isFreed_of_fields (Obj.data_mapFields d1 _)),(Obj.cls_mapFields ..).trans ((Obj.cls_mapFields ..).trans IJ),?_⟩ ((Heap.SameBut.update ..).trans (Heap.SameBut.update ..)))⟩
 rw[Obj.data_mapFields d1]
 simp[rawInt]
theorem zO{it:Addr}{Q:Option Value→Shared→Prop}(hh:A.handled=none)(hit:IsSI s.heap it a (eJ w t es.size) es.size es.size ep)(ho:s.heap.get? a=some o)(hd:o.data= .set es ep t)(ht:TabOk t es.size (iD w))
 (hQ:∀h',Heap.ExtBut it s.heap h'→Q none {s with heap:=h'}):wpAny (model prog w) A (pyNext (.ref it)) Q E s:=by
 have hsz:(iJ w a ep es).size=es.size:=by rw[←Array.length_toList,(fV w a ep es).length_eq,Array.length_toList]
 obtain⟨oi,D2,IJ,B9⟩:=id hit
 unfold pyNext
 refine wpAny_bind (wpAny_attempt (wpAny_callSpecial?_slot (name:=Str.ofString "__next__") hit.typeIs cg (wpAny_call_entry cg hit.typeIs gN ?_ (ik _))))
 unfold Builtin.«set_iterator.__next__» slotArgs
 simp only[List.isEmpty_nil,Bool.not_true,Bool.false_eq_true,↓reduceIte,bind_assoc,List.length_nil,bne_self_eq_false]
 refine wpAny_bind (wpAny_pure (wpAny_bind (wpAny_fieldsOf D2 B9 ?_)))
 simp only[rawInt]
 refine wpAny_bind (wpAny_setEntries_of ho hd ht.fits ?_)
 rw[if_neg (by simp)]
 simp only[Int.toNat_natCast]
 refine wpAny_bind (me ho hd ht (Nat.le_refl _) ?_)
 rw[Array.getElem?_eq_none (Nat.le_of_eq hsz)]
 show wpAny _ _ (setField (.ref it) 2 .none>>=_) _ _ s
 refine wpAny_bind (wpAny_setField D2 B9 (by simp) ?_)
 refine wpAny_bind ?_
 simp only[newExc,newTuple]
 refine wpAny_bind (wpAny_newObj_type ?_ (by size_fits))
 refine wpAny_bind (m:=firstArgMember _ _) (wpAny_of_eq (a:=Value.none) (by first | rfl | (simp only[firstArgMember];rfl)) ?_)
 refine wpAny_newObj_type ?_ (by size_fits)
 simp only[raiseNew]
 refine wpAny_bind (wpAny_handled ?_)
 rw[show A.in1.handled=none from hh]
 refine wpAny_bind (wpAny_pure (wpAny_throw ?_))
 refine wpAny_bind (wpAny_isInstance (T:="StopIteration") (b:=true) ⟨_,Heap.get?_push_size _ rfl,rfl⟩ isSubtype_stop ?_)
 exact wpAny_pure (hQ _ (((Heap.SameBut.update ..).extBut.push _).push _))
def Ef(w:World)(a:Addr)(ep:Nat)(es:Array (Int×Value)):Nat→Value→Prop:=fun i v=>∃e,(iJ w a ep es)[i]? =some e∧v=e.2
theorem wJ(hh:A.handled=none)(I a:Addr)(mx:a≠I)(hd:o.data= .set es ep t)(ht:TabOk t es.size (iD w)):
 Walks prog w A I [I,a] [I] es.size (Ef w a ep es) (fun i h=>IsSI h I a (eJ w t i) i es.size ep∧h.get? a=some o) where
 sub:=fun b hb=>by simp at hb;simp[hb]
 frame:=fun _ _ _ st hk=>⟨st.1.at fun o e=>hk I (by simp) o e,hk a (by simp) _ st.2⟩
 item:=fun i s Q E hi st hQ=>by
  have hsz:(iJ w a ep es).size=es.size:=by rw[←Array.length_toList,(fV w a ep es).length_eq,Array.length_toList]
  have hx:(iJ w a ep es)[i]? =some ((iJ w a ep es)[i]'(by omega)):=Array.getElem?_eq_getElem (by omega)
  exact yc st.1 mx st.2 hd ht hx fun h' zT zV=>hQ _ h' s.toks ⟨_,hx,rfl⟩ ⟨zT,(zV.2 a mx).trans st.2⟩ fun b o hb e=>zV.extBut b o (fun h=>hb (by simp[h])) e
 done:=fun s Q E st hQ=>zO hh st.1 st.2 hd ht fun h' J2=>hQ h' s.toks fun b o hb e=>J2 b o (fun h=>hb (by simp[h])) e
 self:=fun _ _ _ _ st hQ=>y7 st.1 hQ
theorem xI{Q:Bool→Shared→Prop}(hT:s.TypeIs (.ref a) "set")(h:Q false s):wpAny (model prog w) A (Builtin.List.listLengthHint (.ref a)) Q E s:=by
 unfold Builtin.List.listLengthHint
 refine wpAny_bind (wpAny_specialOf hT F.slot_set_len.lookup ?_)
 generalize IP:("set.__len__":String)=KG
 wp_delta
 rw[show splitId KG=some ("set","__len__") from by subst IP;decide+kernel]
 subst IP
 refine wpAny_bind (wpAny_isInstance (T:="set") (b:=true) hT (by rw[isSubtype_type];kernel_rfl) ?_)
 refine wpAny_ite_split (fun EF=>absurd EF (by decide)) fun _=>wpAny_ite_split (fun _=>wpAny_bind (wpAny_typeOf hT (wpAny_pure h))) fun EF=>absurd (by decide+kernel) EF
theorem AZ{a:Addr}(hex:o.ExactSet)(hd:o.data= .set es ep t)(ht:TabOk t es.size (iD w)):KdlSrc prog w "set" a a es.size (Ef w a ep es) (fun h=>h.get? a=some o) where
 type:=fun _ hm=>⟨o,hm,hex.1⟩
 there:=fun _ hm=>⟨Heap.lt_size hm,Heap.lt_size hm⟩
 keep:=fun _ _ hm hk=>hk a (.inl rfl) o hm
 notList:=by decide
 notTuple:=by decide
 hint:=fun _ _ s _ hm hq=>xI ⟨o,hm,hex.1⟩ hq
 iter:=fun _ _ hh hm=>⟨_,_,(fun _ _ hq=>xT hm hex hd ht hq),wJ hh _ a (Nat.ne_of_lt (Heap.lt_size hm)) hd ht,⟨⟨_,Heap.get?_push_size _ rfl,rfl,by unfold eJ;split<;>rfl⟩,Heap.get?_push_of_some _ hm⟩⟩
end
end L3
namespace L3
open PySem PySem.Spec L2 SeqAt HT
open PyProof.Rows hiding St
def iY:D→M D
 | .lst ds=>match dP ds with
   |some ks=>if dU ks=true∧(ks.map ny).Nodup then M.ret (.lst ((sortI ks).map tupI)) else M.stuck
   |none=>M.stuck
 |_=>M.stuck
section
variable{X:Cx}{Xw:Nat→Hp→Prop}{e:Expr}{δ:DE}{pos rq p p2:Pos}
theorem tR{pins:List (Addr×Obj)}{σ:St}{H:Hp}{s:Shared}{Q:VK}(I:Inv X pins σ H s)(hc:X.calm=true){S:Addr}{ws:List V}{ks:List (List Int)}(hr:bS H ws ks)(hk:dU ks=true)
 (hS:SetH (iD X.w) s.heap S (vQ X.prog X.w (fun i=>ks.getD i []) (fun i=>wV (ws.getD i .non)) ks.length))
 (q:∀(q:Addr) (us:List V),H q=none→bS H us (sortI ks)→Q (.ref q) (upd H q (.lst us))):wpAny (model X.prog X.w) X.A (call (.builtin "sorted") [.ref S]) (EP X pins σ Q) X.xe s:=by
 obtain⟨o,es,ep,t,ho,hex,G2,hp,ht⟩:=hS
 unfold dU at hk
 rw[Bool.and_eq_true,Bool.and_eq_true] at hk
 have hd:ks.Nodup:=of_decide_eq_true hk.1.1
 have F9:ks.length<64:=of_decide_eq_true hk.1.2
 have mx:∀k∈ks,k≠[]:=fun k uw z=>by have:=List.all_eq_true.mp hk.2 k uw;rw[z] at this;cases this
 have J5:es.size=ks.length:=by rw[←Array.length_toList,hp.length_eq];unfold vQ;rw[List.length_map,List.length_range]
 have wO:sizeLine=16777216:=sizeLine_eq
 have zy:=eG hr
 refine Calls.call_function_entry kind_sorted plain_sorted entry_sorted (args_sorted1 _) ?_
 unfold Builtin.«sorted»
 refine wpAny_bind (m:=checkCount "sorted" 1 1 _) (wpAny_pure (wpAny_bind (PySem.W.kdu_collect (A:=X.A.in1) (AZ hex G2 ht) (I.ok.hd hc) ho (by rw[J5,wO];omega) fun h1 tk acc Fc sL=>?_)))
 have I1:Inv X pins σ H {s with heap:=h1,toks:=tk}:=I.kept (t':=tk) fun b ob e=>Fc b ob e
 obtain⟨js,G_,JE⟩:∃js:List Nat,js.Perm (List.range ks.length)∧acc.toList=js.map fun j=>Value.ref (wV (ws.getD j .non)):=by
  have e1:acc.toList=(iJ X.w S ep es).toList.map (·.2):=by
   have hsz:(iJ X.w S ep es).size=es.size:=by rw[←Array.length_toList,(fV X.w S ep es).length_eq,Array.length_toList]
   refine List.ext_getElem? fun i=>?_
   rw[List.getElem?_map]
   by_cases hi:i<es.size
   ·have ha:acc[i]? =some (acc[i]'(by rw[sL.1];exact hi)):=Array.getElem?_eq_getElem (by rw[sL.1];exact hi)
    obtain⟨e,q1,q2⟩:=sL.2 i _ ha
    rw[Array.getElem?_toList,Array.getElem?_toList,q1,ha,q2]
    rfl
   ·rw[List.getElem?_eq_none (by rw[Array.length_toList,sL.1];omega),List.getElem?_eq_none (by rw[Array.length_toList];omega)]
    rfl
  have e2:((iJ X.w S ep es).toList.map (·.2)).Perm ((List.range ks.length).map fun j=>Value.ref (wV (ws.getD j .non))):=by
   have:=(((fV X.w S ep es).trans hp).map (·.2))
   unfold vQ at this
   rw[List.map_map] at this
   exact this
  rw[←e1] at e2
  have lift:∀(l:List Value) (r:List Nat),l.Perm (r.map fun j=>Value.ref (wV (ws.getD j .non)))→∃js:List Nat,js.Perm r∧l=js.map fun j=>Value.ref (wV (ws.getD j .non)):=by
   intro l
   induction l with
   |nil=>
    intro r h
    have:=List.Perm.eq_nil h.symm
    exact⟨[],by rw[List.map_eq_nil_iff.mp this],rfl⟩
   |cons v l ih=>
    intro r h
    obtain⟨j,hj,ej⟩:=List.mem_map.mp (h.mem_iff.mp (List.mem_cons_self ..))
    obtain⟨r1,r2,rfl⟩:=List.append_of_mem hj
    have h':l.Perm ((r1++r2).map fun j=>Value.ref (wV (ws.getD j .non))):=by
     have h1:=h
     rw[List.map_append,List.map_cons,←ej] at h1
     rw[List.map_append]
     exact List.Perm.cons_inv (h1.trans (by rw[ej];exact List.perm_middle))
    obtain⟨js,k1,k2⟩:=ih _ h'
    exact⟨j::js,(k1.cons j).trans List.perm_middle.symm,by rw[List.map_cons,←k2,ej]⟩
  exact lift _ _ e2
 have K_:js.length=ks.length:=by rw[G_.length_eq,List.length_range]
 have D1:∀j∈js,j<ks.length:=fun j hj=>List.mem_range.mp (G_.mem_iff.mp hj)
 have E3:bS H (js.map fun i=>ws.getD i .non) (js.map fun i=>ks.getD i []):=gD hr fun i hi=>by rw[zy];exact D1 i hi
 have rv:Vals (js.map fun i=>ws.getD i .non) acc.toList:=by
  rw[JE]
  refine ig (by simp) fun i v u e1 e2=>?_
  rw[List.getElem?_map] at e1 e2
  cases hj:js[i]? with
  |none=>rw[hj] at e1;cases e1
  |some j=>
   rw[hj] at e1 e2
   cases e1
   cases e2
   obtain⟨a,e3,_⟩:=iQ hr (i:=j) (by rw[zy];exact D1 j (List.mem_of_getElem? hj))
   show RelV (ws.getD j .non) (.ref (wV (ws.getD j .non)))
   rw[e3]
   rfl
 have xK:(js.map fun i=>ks.getD i []).Perm ks:=by
  have h1:=G_.map fun i=>ks.getD i []
  have h2:(List.range ks.length).map (fun i=>ks.getD i [])=ks:=by
   refine List.ext_getElem (by simp) fun i h1 h2=>?_
   rw[List.getElem_map,List.getElem_range,List.getD_eq_getElem?_getD,List.getElem?_eq_getElem h2]
   rfl
  rwa [h2] at h1
 generalize Lh:(js.map fun i=>ws.getD i .non)=wQ at E3 rv
 generalize Cb:(js.map fun i=>ks.getD i [])=xV at E3 xK
 have qC:xV.Nodup:=xK.nodup_iff.mpr hd
 have E5:sortI xV=sortI ks:=iR (dY qC) (dY hd) fun x=>by rw[cF,cF];exact xK.mem_iff
 have zA:=eG E3
 have La:=rv.length
 have Lb:=xK.length_eq
 have Kv:=ju I1 E3 rv fun k uw=>mx k (xK.mem_iff.mp uw)
 refine wpAny_bind (wpAny_newList ?_ (by rw[wO];omega))
 have Cm:(h1.push (seqObj "list" acc.toList.toArray 0)).get? h1.objs.size=some (seqObj "list" acc.toList.toArray 0):=Heap.get?_push_size _ rfl
 refine wpAny_bind (wpAny_holding (wpAny_call_entry slot_list_sort ⟨_,Cm,rfl⟩ entry_list_sort (oe (s:={s with heap:=h1.push (seqObj "list" acc.toList.toArray 0),toks:=tk}) Cm
  (Kv.keep (a:=h1.objs.size) (fun b o _ e=>Heap.get?_push_of_some _ e) (fun o e=>absurd (Heap.lt_size e) (Nat.lt_irrefl _))) qC (by omega) fun P h' c' hP hR xG xJ=>?_) (args_list_sort _)))
 have ED:∀i∈P.toList,i<wQ.length:=fun i hi=>by
  obtain⟨j,hj,rfl⟩:=List.mem_iff_getElem.mp hi
  have h':j<P.size:=by rw[Array.length_toList] at hj;exact hj
  have:=hP.lt j (by rw[hP.sz] at h';exact h')
  rw[cV,Array.getElem?_eq_getElem h'] at this
  have e:P.toList[j]=P[j]:=by simp
  rw[e]
  have:P[j]<acc.toList.length:=this
  omega
 have EH:acc.toList.length=xV.length:=by omega
 have GQ:PN xV.length P:=by rw[←EH];exact hP
 have GR:Ri (fun i j=>cS (xV.getD i []) (xV.getD j [])) P xV.length:=by rw[←EH];exact hR
 have Hl:=og qC GQ GR
 have Jc:=gD E3 ED
 rw[Hl,E5] at Jc
 refine⟨_,rfl,wpAny_pure ⟨_,rfl,⟨.ref h1.objs.size,_,I1.laid (a:=h1.objs.size) (t':=tk) (o:= .lst (P.toList.map fun i=>wQ.getD i .non)) (fun b ob e=>xJ b ob (Nat.ne_of_lt (Heap.lt_size e)) (Heap.get?_push_of_some _ e)) (Nat.le_refl _) ?_,rfl,q _ _ (I1.hok.fresh (Nat.le_refl _)) Jc⟩⟩⟩
 exact⟨by rw[List.length_map,Array.length_toList,hP.sz,wO];omega,_,c',jG rv ED,xG⟩
theorem wg(hc:X.calm=true)(hu:X.A.units+64<cLine)(hg:Gl X "sorted")(hm:X.mg "sorted"=none)(J9:Gl X "set")(Ce:X.mg "set"=none)(hb:bootBuiltins "sorted"=some (.builtin "sorted"))(EJ:bootBuiltins "set"=some (.type "set"))(ha:PD X Xw e δ)
 (IL:starEach [e] X.env=[(false,eval e X.env)]:=by rfl)(he:starEach [.Call (.Name "set" p2) [e] [] rq] X.env=[(false,eval (.Call (.Name "set" p2) [e] [] rq) X.env)]:=by rfl):
 PD X Xw (.Call (.Name "sorted" p) [.Call (.Name "set" p2) [e] [] rq] [] pos) (d1 iY δ):=fun pins s σ H Q I ⟨F,ρ,S,w⟩=>by
 have w:WP X.K Xw F H (δ ρ>>=iY) Q:=w
 refine wpAny_Call_Name_kw (fR I hg hm hb ?_ (by decide) (by decide))
 refine PyProof.Rows.callWith_builtin1 ?_ he rfl
 rw[he]
 refine Calls.spliced_cons (wpAny_Call_Name_kw (fR I J9 Ce EJ ?_ (by decide) (by decide)))
 refine PyProof.Rows.callWith_type1 ?_ IL rfl
 rw[IL]
 refine Calls.spliced_cons (bI (ha pins s σ H _ I ⟨F,ρ,S,WP.bind w⟩) fun u s1 ⟨v,H1,I1,r,F1,d,e1,q1,w1⟩=>Calls.spliced_nil ?_)
 unfold iY at w1
 split at w1
 ·rename_i ds
  split at w1
  ·rename_i ks ET
   split at w1
   ·rename_i hok
    obtain⟨a,ws,rfl,h2,h3,h4⟩:=q1
    cases (show u=_ from r)
    have hr:=(jc e1.fh ET h3).1
    have hl:=jd ET h3
    have F9:ks.length<64:=by
     have:=hok.1
     unfold dU at this
     rw[Bool.and_eq_true,Bool.and_eq_true] at this
     exact of_decide_eq_true this.1.2
    refine y9 I1 hc hu (SqL.of (e1.fh _ _ h2)) hr (by omega) hok.2 fun h' tk hS hk=>Calls.spliced_nil ?_
    refine tR (s:={s1 with heap:=h',toks:=tk}) (I1.kept hk) hc hr hok.1 hS fun q us hq Kz=>?_
    obtain⟨F2,e2,r2⟩:=rB e1.fh Kz
    have e3:=Ext.lay (o:= .lst us) e2.fh hq
    exact WP.fin w1 (e2.trans e3) ⟨q,_,rfl,aD,DenL.mono e3.ff (lX r2 fun k hk=>hl k (cF.mp hk)),by rw[List.length_map,jA];unfold lim;omega⟩
   ·exact w1.elim
  ·exact w1.elim
 ·exact w1.elim
end
end L3
namespace L3
open PySem PySem.Spec L2 HT
open PyProof.Rows hiding St
section
variable{X:Cx}{Xw:Nat→Hp→Prop}{e:Expr}{δs:DA}{pos p:Pos}
def ze:List D→M D
 |[.lst ds]=>match nums ds with
  |some ns=>M.ret (.int ns.sum)
  |none=>M.stuck
 |_=>M.stuck
theorem vw(hc:X.calm=true):CallR X (.builtin "sum") (fun xs H Q=>∃(p:Addr) (ns:List Int),xs=[.ref p]∧SqL X.K H p (ns.map V.int)∧Q (.int ns.sum) H):=by
 intro pins s σ H xs us Q I r h
 obtain⟨a,ns,rfl,hq,q⟩:=h
 obtain⟨u,rfl,r1⟩:=r.one
 cases (show u=_ from r1)
 obtain⟨aA,rv,pl,hz⟩:=I.list hq
 have hi:IntsAre aA ns:=by simpa using intsAre_of rv
 obtain⟨xs,hx⟩:=hi.allInts.items
 refine sum_intListG (I.ok.hd hc) (show s.heap.IsList a (intItems xs) from hx▸pl.isList) fun h' tk t' hk=>?_
 have e1:ns=xs.toList.map (·.1):=by
  rw[←nums_intItems,←hx]
  exact(show numsOf aA.toArray.toList=ns from hi.numsOf).symm
 rw[show preSum (numAt xs) xs.size=ns.sum by rw[preSum_eq,List.take_of_length_le (by simp),e1]]
 exact⟨.int ns.sum,H,I.kept hk,⟨_,rfl⟩,q⟩
theorem As(hc:X.calm=true)(hg:Gl X "sum")(hm:X.mg "sum"=none)(hb:bootBuiltins "sum"=some (.builtin "sum"))(ha:ko X Xw [e] δs)(he:starEach [e] X.env=[(false,eval e X.env)]:=by rfl):PD X Xw (.Call (.Name "sum" p) [e] [] pos) (dA ze δs):=
 dg (vw hc) (fun Xw F H vs ds Q s h w=>by
  unfold ze at w
  split at w
  ·rename_i ds
   obtain⟨v,rfl,h1⟩:=h.one
   obtain⟨a,ws,rfl,h2,h3,h4⟩:=h1
   split at w
   ·rename_i ns Ge
    have e:=fP Ge h3
    subst e
    exact⟨a,ns,rfl,SqL.of (s _ _ h2),WP.now w s rfl⟩
   ·exact w.elim
  ·exact w.elim) hg hm hb ha (by decide) (by decide) he rfl
end
end L3
namespace L3
def D7(n:Nat)(δs:DA):DS:=fun _=>M.stuck
end L3
namespace K1
open PySem PySem.Spec L2 L3
open PyProof.Rows hiding St
def t7:DS:=(aS (dI (dA fv (aC (dV 0) (aC (dC (.raw (.ty "int"))) aN))) (Be (dA fv (aC (dV 0) (aC (dC (.raw (.ty "bool"))) aN))))))
def a6:List D→M D:=bJ 1 (t7)
def rY:DS:=(aS (dI (dA fv (aC (dV 0) (aC (dC (.raw (.ty "str"))) aN))) (dI (d2 mH (dA aR (aC (dV 0) aN)) (dC (.int 1))) (d2 (mJ false) (dV 0) (dC (.str "abcdef"))))))
def bu:List D→M D:=bJ 1 (rY)
def mn:DS:=(aS (aT 0 (fun ρ=>(aC (dA aR (aC (d2 a8 (dV 0) (dC (.int 0))) aN)) aN) ρ>>=gb) bF (dA df (aC (dV 2) (aC (dV 0) aN)))))
def aU:List D→M D:=bJ 2 (mn)
def r9:DS:=(aS (d2 kq (d2 a8 (dV 0) (d2 a8 (dV 1) (dC (.int 0)))) (d2 a8 (dV 1) (dC (.int 1)))))
def bc:List D→M D:=bJ 2 (r9)
def t6:DS:=(aH (cG 3 (dA wU (aC (d2 sI (d2 a8 (dV 0) (dC (.int 0))) (d2 a8 (dV 1) (dC (.int 0)))) aN))) (aH (cG 4 (dA wU (aC (d2 sI (d2 a8 (dV 0) (dC (.int 1))) (d2 a8 (dV 1) (dC (.int 1)))) aN))) (aH (eu (b_ (d2 mH (dV 2) (dC (.int 4)))) (aS (d2 mH (d2 cI (dV 3) (dV 4)) (dC (.int 1)))) bT) (aS (d2 mH (dA sT (aC (dV 3) (aC (dV 4) aN))) (dC (.int 1)))))))
def cz:List D→M D:=bJ 5 (t6)
def A7:DS:=(aH (BK 1) (aH (fun ρ=>noex ((hX (putN 2) (Cs (fI (dV 0)) (fun ρ=>(dV 0) ρ>>=jN)) (fc [2] (u6 1 (dV 2) (dC (.bl true))))) ρ)) (D6 1 (aS (dV 1)))))
def iw:List D→M D:=bJ 3 (A7)
def mr:DS:=(aH (eu (b_ (d2 mH (dV 0) (dA dr aN))) (aS (d2 eT (dC (.int 7)) (dV 1))) bT) (aS (d2 cI (d2 xA (dV 0) (d2 iz (dV 1) (dA aR (aC (dV 0) aN)))) (d2 eT (dC (.int 6553)) (d2 mG (dV 1) (dA aR (aC (dV 0) aN)))))))
def dN:List D→M D:=bJ 2 (mr)
def rZ:DS:=(aH (eu (jK (b5 (bY (dA fv (aC (dV 0) (aC (dC (.raw (.ty "str"))) aN))))) (b5 (b_ (sx (fun i j=>decide (i≤j)) (fun i j=>decide (i≤j)) (dC (.int 1)) (dA aR (aC (dV 0) aN)) (dC (.int 8)))))) (aS (dC (.bl false))) bT) (aS (dA allM (aC (aT 0 (fun ρ=>(dV 0) ρ>>=AW) bF (ak 1 bu (aC (dV 0) aN))) aN))))
def dJ:List D→M D:=bJ 1 (rZ)
def oq:DS:=(aH (eu (jK (b5 (bY (dA fv (aC (dV 1) (aC (dC (.raw (.ty "tuple"))) aN))))) (b_ (d2 fM (dA aR (aC (dV 1) aN)) (dC (.int 2))))) (aS (dC (.bl false))) bT) (aH (eu (jK (b5 (bY (ak 1 a6 (aC (d2 a8 (dV 1) (dC (.int 0))) aN)))) (b5 (bY (ak 1 a6 (aC (d2 a8 (dV 1) (dC (.int 1))) aN))))) (aS (dC (.bl false))) bT) (aS (dI (sx (fun i j=>decide (i≤j)) (fun i j=>decide (i<j)) (dC (.int 0)) (d2 a8 (dV 1) (dC (.int 0))) (dA aR (aC (dV 0) aN))) (sx (fun i j=>decide (i≤j)) (fun i j=>decide (i<j)) (dC (.int 0)) (d2 a8 (dV 1) (dC (.int 1))) (dA aR (aC (d2 a8 (dV 0) (dC (.int 0))) aN)))))))
def gw:List D→M D:=bJ 2 (oq)
def sd:DS:=(eu (jK (b5 (bY (ak 1 a6 (aC (dV 0) aN)))) (b_ (d2 (zR true) (dV 0) (dA df (aC (dC (.int 4)) (aC (dC (.int 8)) aN)))))) (D7 1 (aC (dC (.str "ways are 4 or 8")) aN)) bT)
def d6:List D→M D:=bJ 1 (sd)
def rX:DS:=(aH (AU 1) (aH (fun ρ=>noex ((hX (putN 2) (fun ρ=>(aC (dA aR (aC (dV 0) aN)) aN) ρ>>=gb) (fc [2] (y0 1 (ak 2 aU (aC (dV 0) (aC (dV 2) aN)))))) ρ)) (D6 1 (aS (dV 1)))))
def d5:List D→M D:=bJ 3 (rX)
def p_:DS:=(aH (AU 3) (aH (fun ρ=>noex ((hX (putN 4) (fun ρ=>(aC (dA sT (aC (d2 sI (d2 a8 (dV 1) (dC (.int 0))) (dC (.int 1))) (aC (dC (.int 0)) aN))) (aC (dA vY (aC (d2 cI (d2 a8 (dV 1) (dC (.int 0))) (dC (.int 2))) (aC (dA aR (aC (dV 0) aN)) aN))) aN)) ρ>>=l5) (fc [4,5] (hX (putN 5) (fun ρ=>(aC (dA sT (aC (d2 sI (d2 a8 (dV 1) (dC (.int 1))) (dC (.int 1))) (aC (dC (.int 0)) aN))) (aC (dA vY (aC (d2 cI (d2 a8 (dV 1) (dC (.int 1))) (dC (.int 2))) (aC (dA aR (aC (d2 a8 (dV 0) (dC (.int 0))) aN)) aN))) aN)) ρ>>=l5) (fc [5] (eu (bY (ak 3 cz (aC (dV 1) (aC (dA df (aC (dV 4) (aC (dV 5) aN))) (aC (dV 2) aN))))) (rF 3 (dA df (aC (dV 4) (aC (dV 5) aN)))) bT))))) ρ)) (D6 3 (aS (dV 3)))))
def dw:List D→M D:=bJ 6 (p_)
def j9:DS:=(aH (cG 3 (d2 iz (d2 cI (d2 eT (d2 iz (ak 2 dN (aC (dV 0) (aC (dV 1) aN))) (dC (.int 2147483563))) (dC (.int 69069))) (d2 eT (dC (.int 104723)) (d2 cI (dV 1) (dC (.int 1))))) (dC (.int 2147483563)))) (aH (cG 3 (d2 iz (d2 cI (d2 eT (dV 3) (dV 3)) (d2 mG (dV 3) (dC (.int 3)))) (dC (.int 2147483399)))) (aS (d2 iz (d2 mG (d2 iz (d2 cI (d2 eT (dV 3) (dV 3)) (d2 mG (dV 3) (dC (.int 7)))) (dC (.int 2147483647))) (dC (.int 11))) (dV 2)))))
def aI:List D→M D:=bJ 4 (j9)
def mq:DS:=(aH (eu (jK (b5 (bY (dA fv (aC (dV 0) (aC (dC (.raw (.ty "tuple"))) aN))))) (b5 (b_ (sx (fun i j=>decide (i≤j)) (fun i j=>decide (i≤j)) (dC (.int 1)) (dA aR (aC (dV 0) aN)) (dC (.int 8)))))) (aS (dC (.bl false))) bT) (aH (eu (b5 (bY (dA allM (aC (aT 0 (mE (dV 0)) bF (ak 1 dJ (aC (dV 0) aN))) aN)))) (aS (dC (.bl false))) bT) (aS (dA allM (aC (aT 0 (mE (dV 0)) bF (d2 mH (dA aR (aC (dV 0) aN)) (dA aR (aC (d2 a8 (dV 1) (dC (.int 0))) aN)))) aN)))))
def eR:List D→M D:=bJ 1 (mq)
def r_:DS:=(eu (b5 (bY (ak 2 gw (aC (dV 0) (aC (dV 1) aN))))) (D7 2 (aC (dC (.str "a tuple (row, column) on the board is asked for")) aN)) bT)
def bL:List D→M D:=bJ 2 (r_)
def r0:DS:=(aH (cG 3 (d2 cI (dC (.int 1)) (ak 3 aI (aC (dV 0) (aC (dV 1) (aC (dV 2) aN)))))) (aH (cG 4 (d2 cI (dC (.int 1)) (ak 3 aI (aC (dV 0) (aC (d2 cI (dV 1) (dC (.int 1))) (aC (dV 2) aN)))))) (aH (cG 5 (d2 xy (dA dr (aC (dC (.str "ab")) (aC (dC (.str "abc")) (aC (dC (.str "aab")) (aC (dC (.str "fa")) aN))))) (ak 3 aI (aC (dV 0) (aC (d2 cI (dV 1) (dC (.int 2))) (aC (dC (.int 4)) aN)))))) (aH (cG 6 (dA df aN)) (aH (fun ρ=>noex ((hX (putN 7) (fun ρ=>(aC (dV 3) aN) ρ>>=gb) (fc [7,8] (aH (cG 8 (aT 0 (fun ρ=>(aC (dV 4) aN) ρ>>=gb) bF (d2 kq (dV 6) (ak 3 aI (aC (dV 1) (aC (d2 cI (d2 cI (d2 cI (dV 2) (dC (.int 3))) (d2 eT (dC (.int 7)) (dV 8))) (dV 0)) (aC (dA aR (aC (dV 6) aN)) aN))))))) (cG 6 (d2 nv (dV 6) (dA df (aC (dM lu joinM (dC (.str "")) (aC (dV 8) aN)) aN))))))) ρ)) (aS (dV 6)))))))
def cC:List D→M D:=bJ 9 (r0)
def p9:DS:=(eu (b5 (bY (ak 1 eR (aC (dV 0) aN)))) (D7 0 (aC (dC (.str "a tuple of 1 to 8 texts of 1 to 8 letters, all as long, is asked for")) aN)) bT)
def az:List D→M D:=bJ 1 (p9)
def A6:DS:=(aH (fb (ak 1 az (aC (dV 0) aN))) (aS (ak 1 d5 (aC (dV 0) aN))))
def iu:List D→M D:=bJ 1 (A6)
def t9:DS:=(aH (eu (b_ (d2 fM (dA aR (aC (d2 a8 (dV 0) (dC (.int 0))) aN)) (dA aR (aC (d2 a8 (dV 1) (dC (.int 0))) aN)))) (D7 5 (aC (dC (.str "the boards are not as wide")) aN)) bT) (eu (b_ (d2 Iy (d2 cI (dA aR (aC (dV 0) aN)) (dA aR (aC (dV 1) aN))) (dC (.int 8)))) (D7 5 (aC (dC (.str "the boards have more than 8 rows together")) aN)) bT))
def eS:List D→M D:=bJ 2 (t9)
def gL:DS:=(aS (dM lu joinM (dC (.str "")) (aC (aT 0 (fun ρ=>(aC (dV 0) aN) ρ>>=yW) bF (d2 kq (dV 0) (dV 2))) aN)))
def ba:List D→M D:=bJ 2 (gL)
def mZ:DS:=(eu (b5 (bY (ak 1 bu (aC (dV 0) aN)))) (D7 3 (aC (dC (.str "one of the letters a to f is asked for")) aN)) bT)
def c8:List D→M D:=bJ 1 (mZ)
def mw:DS:=(aH (cG 3 (ak 1 iw (aC (dV 1) aN))) (aH (AU 4) (aH (fun ρ=>noex ((hX (putN 5) (fun ρ=>(aC (dA aR (aC (dV 0) aN)) aN) ρ>>=gb) (fc [5,6] (aH (cG 6 (ak 2 aU (aC (dV 0) (aC (dV 5) aN)))) (rF 4 (dM lu joinM (dC (.str "")) (aC (aT 0 (fI (dV 6)) bF (Bd (b_ (d2 (mI false) (dV 0) (dV 4))) (dV 3) (ak 2 bc (aC (dV 1) (aC (dV 0) aN))))) aN)))))) ρ)) (D6 4 (aS (dA rT (aC (dV 4) aN)))))))
def b6:List D→M D:=bJ 7 (mw)
def mY:DS:=(aS (dA df (aC (ak 3 aI (aC (dV 0) (aC (dV 1) (aC (dA aR (aC (dV 2) aN)) aN)))) (aC (ak 3 aI (aC (dV 0) (aC (d2 cI (dV 1) (dC (.int 1))) (aC (dA aR (aC (d2 a8 (dV 2) (dC (.int 0))) aN)) aN)))) aN))))
def c7:List D→M D:=bJ 3 (mY)
def r6:DS:=(aH (fb (ak 1 az (aC (dV 0) aN))) (aH (fb (ak 2 bL (aC (dV 0) (aC (dV 1) aN)))) (aS (ak 2 bc (aC (dV 0) (aC (dV 1) aN))))))
def aV:List D→M D:=bJ 2 (r6)
def m6:DS:=(aH (fb (ak 1 az (aC (dV 0) aN))) (aH (fb (ak 2 bL (aC (dV 0) (aC (dV 1) aN)))) (aH (fb (ak 1 c8 (aC (dV 2) aN))) (aS (ak 3 b6 (aC (dV 0) (aC (dA dr (aC (dV 1) aN)) (aC (dV 2) aN))))))))
def bf:List D→M D:=bJ 3 (m6)
def zo:DS:=(aH (fb (ak 1 az (aC (dV 0) aN))) (aH (fb (ak 2 bL (aC (dV 0) (aC (dV 1) aN)))) (aH (fb (ak 1 d6 (aC (dV 2) aN))) (aS (ak 3 dw (aC (dV 0) (aC (dV 1) (aC (dV 2) aN))))))))
def bP:List D→M D:=bJ 3 (zo)
def zp:DS:=(aH (fb (ak 1 az (aC (dV 0) aN))) (aS (dA rT (aC (aT 0 (fun ρ=>(aC (dA aR (aC (d2 a8 (dV 0) (dC (.int 0))) aN)) aN) ρ>>=gb) bF (ak 2 ba (aC (dV 1) (aC (dV 0) aN)))) aN))))
def bG:List D→M D:=bJ 1 (zp)
def t8:DS:=(aH (fb (ak 1 az (aC (dV 0) aN))) (aS (dA rT (aC (aT 0 (mE (dV 0)) bF (BX (dV 0) (d1 CO (dC (.int 1))))) aN))))
def bq:List D→M D:=bJ 1 (t8)
def wL:DS:=(aH (fb (ak 1 az (aC (dV 0) aN))) (aH (fb (ak 1 az (aC (dV 1) aN))) (aH (fb (ak 2 eS (aC (dV 0) (aC (dV 1) aN)))) (aS (d2 nv (dV 0) (dV 1))))))
def gy:List D→M D:=bJ 2 (wL)
def wK:DS:=(aH (fb (ak 1 az (aC (dV 0) aN))) (aH (cG 1 (dM lu joinM (dC (.str "")) (aC (dV 0) aN))) (aS (aT 0 (fun ρ=>(dC (.str "abcdef")) ρ>>=AW) (b_ (d2 (mJ false) (dV 0) (dV 2))) (dA df (aC (dV 0) (aC (dM lu ql (dV 2) (aC (dV 0) aN)) aN)))))))
def a7:List D→M D:=bJ 2 (wK)
def p8:DS:=(aH (cG 3 (ak 3 c7 (aC (dV 0) (aC (dC (.int 60)) (aC (dV 1) aN))))) (aH (cG 4 (ak 3 bf (aC (dV 1) (aC (dV 3) (aC (dC (.str "e")) aN))))) (aH (eu (b_ (d2 fM (ak 2 aV (aC (dV 4) (aC (dV 3) aN))) (dC (.str "e")))) (aS (dC (.bl false))) bT) (aH (eu (b_ (d2 fM (aT 0 (fI (dV 2)) (vA (b_ (d2 fM (dV 0) (dV 4))) (b_ (d2 fM (ak 2 aV (aC (dV 5) (aC (dV 0) aN))) (ak 2 aV (aC (dV 2) (aC (dV 0) aN)))))) (dV 0)) (dA dr aN))) (aS (dC (.bl false))) bT) (aH (fun ρ=>noex ((hX (putN 5) (fun ρ=>(aC (dC (.int 1)) (aC (dA aR (aC (dV 1) aN)) aN)) ρ>>=l5) (fc [5] (eu (b_ (d2 fM (ak 2 gy (aC (DX (dV 1) oN (oS (dV 5))) (aC (DX (dV 1) (oS (dV 5)) oN) aN))) (dV 1))) (aS (dC (.bl false))) bT))) ρ)) (aS (d2 mH (aT 0 (fI (dV 2)) bF (ak 2 aV (aC (dV 2) (aC (dV 0) aN)))) (dA xZ (aC (dM lu joinM (dC (.str "")) (aC (dV 1) aN)) aN)))))))))
def cH:List D→M D:=bJ 6 (p8)
def j_:DS:=(cG 1 (ak 3 cC (aC (dV 0) (aC (dC (.int 0)) (aC (dC (.int 5)) aN)))))
def kc:DS:=(cG 2 (ak 1 iu (aC (dV 1) aN)))
def ke:DS:=(eu (jK (b_ (d2 fM (dV 2) (d1 iY (dV 2)))) (b_ (d2 fM (dA aR (aC (dV 2) aN)) (d2 eT (dA aR (aC (dV 1) aN)) (dA aR (aC (d2 a8 (dV 1) (dC (.int 0))) aN)))))) (aS (dC (.bl false))) bT)
def kf:DS:=(fun ρ=>noex ((hX (putN 3) (fI (dV 2)) (fc [3,4,5] (aH (cG 4 (ak 3 bP (aC (dV 1) (aC (dV 3) (aC (dC (.int 4)) aN))))) (aH (cG 5 (ak 3 bP (aC (dV 1) (aC (dV 3) (aC (dC (.int 8)) aN))))) (aH (eu (b_ (d2 fM (aT 0 (fI (dV 4)) (jK (b_ (d2 (mK true) (dV 0) (dV 6))) (b_ (d2 (mK true) (dV 4) (ak 3 bP (aC (dV 2) (aC (dV 0) (aC (dC (.int 4)) aN))))))) (dV 0)) (dA dr aN))) (aS (dC (.bl false))) bT) (aH (eu (b_ (d2 fM (aT 0 (fI (dV 5)) (jK (b_ (d2 (mK true) (dV 4) (ak 3 bP (aC (dV 2) (aC (dV 0) (aC (dC (.int 8)) aN)))))) (b_ (d2 mH (dV 0) (dV 4)))) (dV 0)) (dA dr aN))) (aS (dC (.bl false))) bT) (aH (eu (b_ (d2 fM (dV 5) (dA zd (aC (dV 5) aN)))) (aS (dC (.bl false))) bT) (eu (b_ (d2 fM (ak 3 bf (aC (dV 1) (aC (dV 3) (aC (ak 2 aV (aC (dV 1) (aC (dV 3) aN))) aN)))) (dV 1))) (aS (dC (.bl false))) bT)))))))) ρ))
def kg:DS:=(eu (b_ (d2 fM (ak 1 bG (aC (ak 1 bG (aC (ak 1 bG (aC (ak 1 bG (aC (dV 1) aN)) aN)) aN)) aN)) (dV 1))) (aS (dC (.bl false))) bT)
def kh:DS:=(eu (b_ (d2 fM (ak 1 bq (aC (ak 1 bq (aC (dV 1) aN)) aN)) (dV 1))) (aS (dC (.bl false))) bT)
def ki:DS:=(eu (b_ (d2 fM (ak 1 bG (aC (ak 1 bq (aC (ak 1 bG (aC (ak 1 bq (aC (dV 1) aN)) aN)) aN)) aN)) (dV 1))) (aS (dC (.bl false))) bT)
def kj:DS:=(eu (b_ (d2 fM (ak 1 a7 (aC (ak 1 bG (aC (dV 1) aN)) aN)) (ak 1 a7 (aC (dV 1) aN)))) (aS (dC (.bl false))) bT)
def kl:DS:=(eu (b_ (d2 fM (dA ze (aC (aT 2 (fI (ak 1 a7 (aC (dV 1) aN))) bF (dV 1)) aN)) (dA aR (aC (dV 2) aN)))) (aS (dC (.bl false))) bT)
def km:DS:=(eu (b_ (d2 fM (ak 1 a7 (aC (ak 1 bq (aC (dV 1) aN)) aN)) (ak 1 a7 (aC (dV 1) aN)))) (aS (dC (.bl false))) bT)
def i5:DS:=(aS (ak 3 cH (aC (dV 0) (aC (dV 1) (aC (dV 2) aN)))))
def jI:DS:=(aH j_ (aH kc (aH ke (aH kf (aH kg (aH kh (aH ki (aH kj (aH kl (aH km i5))))))))))
def gx:List D→M D:=bJ 6 jI
structure Bl (K:W.Frag) (mg:Str→Option Value) (base:Heap) (cv:Nat→Value) (cA:Nat→Addr) (Cp:Addr):Prop where
 len:mg "len"=none
 isinstance:mg "isinstance"=none
 all:mg "all"=none
 abs:mg "abs"=none
 max:mg "max"=none
 min:mg "min"=none
 sum:mg "sum"=none
 range:mg "range"=none
 str:mg "str"=none
 int:mg "int"=none
 bool:mg "bool"=none
 tuple:mg "tuple"=none
 list:mg "list"=none
 set:mg "set"=none
 sorted:mg "sorted"=none
 reversed:mg "reversed"=none
 LETTERS:∃t,mg "LETTERS"=some (.str "abcdef" t)
 MOST_ROWS:∃t,mg "MOST_ROWS"=some (.int 8 t)
 MOST_COLUMNS:∃t,mg "MOST_COLUMNS"=some (.int 8 t)
section
variable{P:Program}{w:World}{K:W.Frag}{mg:Str→Option Value}{base:Heap}{cv:Nat→Value}{cA:Nat→Addr}{Cp:Addr}{f:Addr}
abbrev h7:Stmt:=top 11
def lE:List Str:=["thing"]
def lP:List Str:=["thing"]
theorem rH:FnScope lE lP (af h7):=⟨rfl,rfl,rfl,by decide+kernel,rfl,by decide+kernel,by decide+kernel⟩
theorem q9(B:Bl K mg base cv cA Cp)(T:a_ K mg "is_whole" h7 f):ah P w K mg base cv 1 "is_whole" 1 (a6):=
 ax (N:=lE) (ps:=lP) T rH (fun _ _ _ _ _ _ us hl=>match us,hl with | [_],_=>rfl) fun bp A outer s H E hr=>
  (aj (av (pB (jl rfl B.isinstance rfl (aa (ab (pv 0)) (aa (n0 rfl B.int rfl) ae))) (tH (C8 (jl rfl B.isinstance rfl (aa (ab (pv 0)) (aa (n0 rfl B.bool rfl) ae))))))))
abbrev gf:Stmt:=top 12
def jP:List Str:=["thing"]
def j1:List Str:=["thing"]
theorem pN:FnScope jP j1 (af gf):=⟨rfl,rfl,rfl,by decide+kernel,rfl,by decide+kernel,by decide+kernel⟩
theorem pd(B:Bl K mg base cv cA Cp)(T:a_ K mg "is_letter" gf f):ah P w K mg base cv 1 "is_letter" 1 (bu):=
 ax (N:=jP) (ps:=j1) T pN (fun _ _ _ _ _ _ us hl=>match us,hl with | [_],_=>rfl) fun bp A outer s H E hr=>
  (aj (av (pB (jl rfl B.isinstance rfl (aa (ab (pv 0)) (aa (n0 rfl B.str rfl) ae))) (pB (rl hr.units (aW rfl B.len (aa (ab (pv 0)) ae)) au) (tH (C4 (ab (pv 0)) (uX rfl B.LETTERS (by decide))))))))
abbrev ib:Stmt:=top 20
def lG:List Str:=["one","other"]
def lS:List Str:=["one","other"]
theorem rL:FnScope lG lS (af ib):=⟨rfl,rfl,rfl,by decide+kernel,rfl,by decide+kernel,by decide+kernel⟩
theorem rb(B:Bl K mg base cv cA Cp)(T:a_ K mg "need_fit" ib f):ah P w K mg base cv 1 "need_fit" 2 (eS):=
 ax (N:=lG) (ps:=lS) T rL (fun _ _ _ _ _ _ us hl=>match us,hl with | [_,_],_=>rfl) fun bp A outer s H E hr=>
  (ao (aX (cN hr.units (aW rfl B.len (aa (bb (ab (pv 0)) au) ae)) (aW rfl B.len (aa (bb (ab (pv 1)) au) ae))) (aj dF) aM) (aj (aX (Fy (b7 (aW rfl B.len (aa (ab (pv 0)) ae)) (aW rfl B.len (aa (ab (pv 1)) ae))) (pD rfl B.MOST_ROWS)) (aj dF) aM)))
abbrev cP:Stmt:=top 21
def cJ:List Str:=["board","row"]
def fW:List Str:=["board","row"]
theorem kz:FnScope cJ fW (af cP):=⟨rfl,rfl,rfl,by decide+kernel,rfl,by decide+kernel,by decide+kernel⟩
theorem kr(B:Bl K mg base cv cA Cp)(T:a_ K mg "cells_of_row" cP f):ah P w K mg base cv 1 "cells_of_row" 2 (aU):=
 ax (N:=cJ) (ps:=fW) T kz (fun _ _ _ _ _ _ us hl=>match us,hl with | [_,_],_=>rfl) fun bp A outer s H E hr=>
  (aj (av (bV (tn:=["column"]) (n:=0) (aZ (N:=cJ) (osc:=(af cP)) rfl rfl (by decide+kernel)) rfl rfl (cZ rfl B.range (aa (aW rfl B.len (aa (bb (ab (pv 0)) au) ae)) ae)) (fun _ _ _ _ _ _ _=>bX (show List.Nodup (((["column"]:List Str))++bU ["column"] cJ) by decide+kernel) rfl rfl) (fun _ _ _ _ _ _=>b8) (fun _ _ _ _ _ _=>(f6 (aa (ab (pv 2)) (aa (ab (pv 0)) ae)))))))
abbrev gi:Stmt:=top 23
def jS:List Str:=["board","cell"]
def j5:List Str:=["board","cell"]
theorem pP:FnScope jS j5 (af gi):=⟨rfl,rfl,rfl,by decide+kernel,rfl,by decide+kernel,by decide+kernel⟩
theorem pj(B:Bl K mg base cv cA Cp)(T:a_ K mg "letter_of" gi f):ah P w K mg base cv 1 "letter_of" 2 (bc):=
 ax (N:=jS) (ps:=j5) T pP (fun _ _ _ _ _ _ us hl=>match us,hl with | [_,_],_=>rfl) fun bp A outer s H E hr=>
  (aj (av (tF (bb (ab (pv 0)) (bb (ab (pv 1)) au)) (bb (ab (pv 1)) au))))
abbrev hZ:Stmt:=top 24
def lD:List Str:=["one","other","ways","down","along"]
def lN:List Str:=["one","other","ways"]
theorem gm:FnScope lD lN (af hZ):=⟨rfl,rfl,rfl,by decide+kernel,rfl,by decide+kernel,by decide+kernel⟩
theorem qZ(B:Bl K mg base cv cA Cp)(T:a_ K mg "are_next" hZ f):ah P w K mg base cv 1 "are_next" 3 (cz):=
 ax (N:=lD) (ps:=lN) T gm (fun _ _ _ _ _ _ us hl=>match us,hl with | [_,_,_],_=>rfl) fun bp A outer s H E hr=>
  (ao (bt gm.nd rfl (by first | exact .inl rfl | exact .inr rfl) (yt rfl B.abs (aa (pE (bb (ab (pv 0)) au) (bb (ab (pv 1)) au)) ae) rfl)) (ao (bt gm.nd rfl (by first | exact .inl rfl | exact .inr rfl) (yt rfl B.abs (aa (pE (bb (ab (pv 0)) au) (bb (ab (pv 1)) au)) ae) rfl)) (ao (aX (yO hr.units (ab (pv 2)) au) (aj (av (rl hr.units (b7 (ab (pv 3)) (ab (pv 4))) au))) aM) (aj (av (rl hr.units (tG rfl rfl B.max rfl (aa (ab (pv 3)) (aa (ab (pv 4)) ae))) au))))))
abbrev pM:Stmt:=top 26
def uO:List Str:=["things","found","thing"]
def uT:List Str:=["things"]
theorem l8:FnScope uO uT (af pM):=⟨rfl,rfl,rfl,by decide+kernel,rfl,by decide+kernel,by decide+kernel⟩
theorem yn(B:Bl K mg base cv cA Cp)(T:a_ K mg "keyed" pM f):ah P w K mg base cv 1 "keyed" 1 (iw):=
 ax (N:=uO) (ps:=uT) T l8 (fun _ _ _ _ _ _ us hl=>match us,hl with | [_],_=>rfl) fun bp A outer s H E hr=>
  (ao (yJ l8.nd rfl (by first | exact .inl rfl | exact .inr rfl)) (ao (e9 (eg PassesOwn.never rfl (Au (dh (ab (pv 0))) (yz (ab (pv 0)))) (cf l8.nd rfl (by first | exact .inl rfl | exact .inr rfl)) dj (di (aj (yK hr.units (pv 1) (ab (pv 2)) cE))))) (aj (kH (i:=1) (av (ab (pv 1)))))))
abbrev bC:Stmt:=top 32
def bB:List Str:=["board","column"]
def du:List Str:=["board","column"]
theorem gn:FnScope bB du (af bC):=⟨rfl,rfl,rfl,by decide+kernel,rfl,by decide+kernel,by decide+kernel⟩
theorem fU(B:Bl K mg base cv cA Cp)(T:a_ K mg "column_from_below" bC f):ah P w K mg base cv 1 "column_from_below" 2 (ba):=
 ax (N:=bB) (ps:=du) T gn (fun _ _ _ _ _ _ us hl=>match us,hl with | [_,_],_=>rfl) fun bp A outer s H E hr=>
  (aj (av (iO dW (aa (bV (tn:=["row"]) (n:=0) (aZ (N:=bB) (osc:=(af bC)) rfl rfl (by decide+kernel)) rfl rfl (Av rfl B.reversed (aa (ab (pv 0)) ae)) (fun _ _ _ _ _ _ _=>bX (show List.Nodup (((["row"]:List Str))++bU ["row"] bB) by decide+kernel) rfl rfl) (fun _ _ _ _ _ _=>b8) (fun _ _ _ _ _ _=>(tF (ab (pv 0)) (ab (pv 2))))) ae))))
abbrev h9:Stmt:=top 38
def lF:List Str:=["_law_script","_law_k"]
def lQ:List Str:=["_law_script","_law_k"]
theorem rJ:FnScope lF lQ (af h9):=⟨rfl,rfl,rfl,by decide+kernel,rfl,by decide+kernel,by decide+kernel⟩
theorem q_(B:Bl K mg base cv cA Cp)(T:a_ K mg "_law_cell" h9 f):ah P w K mg base cv 1 "_law_cell" 2 (dN):=
 ax (N:=lF) (ps:=lQ) T rJ (fun _ _ _ _ _ _ us hl=>match us,hl with | [_,_],_=>rfl) fun bp A outer s H E hr=>
  (ao (aX (yO hr.units (ab (pv 0)) (jm ae)) (aj (av (fZ au (ab (pv 1))))) aM) (aj (av (b7 (C6 (ab (pv 0)) (jo (ab (pv 1)) (aW rfl B.len (aa (ab (pv 0)) ae)))) (fZ au (pC (ab (pv 1)) (aW rfl B.len (aa (ab (pv 0)) ae))))))))
abbrev iS:Stmt:=top 13
def iF:List Str:=["thing"]
def rj:List Str:=["thing"]
theorem wy:FnScope iF rj (af iS):=⟨rfl,rfl,rfl,by decide+kernel,rfl,by decide+kernel,by decide+kernel⟩
theorem v_(B:Bl K mg base cv cA Cp)(fF:ah P w K mg base cv 1 "is_letter" 1 bu)(T:a_ K mg "is_row" iS f):ah P w K mg base cv 2 "is_row" 1 (dJ):=
 ax (N:=iF) (ps:=rj) T wy (fun _ _ _ _ _ _ us hl=>match us,hl with | [_],_=>rfl) fun bp A outer s H E hr=>
  (ao (aX (PDW.t (f7 (cx (cM (jl rfl B.isinstance rfl (aa (ab (pv 0)) (aa (n0 rfl B.str rfl) ae))))) (ef (cx (yM nT nT au (aW rfl B.len (aa (ab (pv 0)) ae)) (pD rfl B.MOST_COLUMNS)))))) (aj (av cE)) aM) (aj (av (tE rfl rfl B.all rfl (aa (bV (tn:=["sign"]) (n:=0) (aZ (N:=iF) (osc:=(af iS)) rfl rfl (by decide+kernel)) rfl rfl (uY (ab (pv 0))) (fun _ _ _ _ _ _ _=>bX (show List.Nodup (((["sign"]:List Str))++bU ["sign"] iF) by decide+kernel) rfl rfl) (fun _ _ _ _ _ _=>b8) (fun _ _ _ _ _ _=>(aK fF (hr.mono (by decide)) rfl cT (aa (ab (pv 0)) ae) rfl))) ae)))))
abbrev jy:Stmt:=top 15
def nN:List Str:=["board","thing"]
def nV:List Str:=["board","thing"]
theorem tM:FnScope nN nV (af jy):=⟨rfl,rfl,rfl,by decide+kernel,rfl,by decide+kernel,by decide+kernel⟩
theorem tj(B:Bl K mg base cv cA Cp)(eN:ah P w K mg base cv 1 "is_whole" 1 a6)(T:a_ K mg "is_cell" jy f):ah P w K mg base cv 2 "is_cell" 2 (gw):=
 ax (N:=nN) (ps:=nV) T tM (fun _ _ _ _ _ _ us hl=>match us,hl with | [_,_],_=>rfl) fun bp A outer s H E hr=>
  (ao (aX (PDW.t (f7 (cx (cM (jl rfl B.isinstance rfl (aa (ab (pv 1)) (aa (n0 rfl B.tuple rfl) ae))))) (ef (cN hr.units (aW rfl B.len (aa (ab (pv 1)) ae)) au)))) (aj (av cE)) aM) (ao (aX (PDW.t (f7 (cx (cM (aK eN (hr.mono (by decide)) rfl aG (aa (bb (ab (pv 1)) au) ae) rfl))) (ef (cx (cM (aK eN (hr.mono (by decide)) rfl aG (aa (bb (ab (pv 1)) au) ae) rfl)))))) (aj (av cE)) aM) (aj (av (pB (yu nT BE au (bb (ab (pv 1)) au) (aW rfl B.len (aa (ab (pv 0)) ae))) (tH (yu nT BE au (bb (ab (pv 1)) au) (aW rfl B.len (aa (bb (ab (pv 0)) au) ae)))))))))
abbrev er:Stmt:=top 18
def gR:List Str:=["thing"]
def gX:List Str:=["thing"]
theorem ma:FnScope gR gX (af er):=⟨rfl,rfl,rfl,by decide+kernel,rfl,by decide+kernel,by decide+kernel⟩
theorem lL(B:Bl K mg base cv cA Cp)(fF:ah P w K mg base cv 1 "is_letter" 1 bu)(T:a_ K mg "need_letter" er f):ah P w K mg base cv 2 "need_letter" 1 (c8):=
 ax (N:=gR) (ps:=gX) T ma (fun _ _ _ _ _ _ us hl=>match us,hl with | [_],_=>rfl) fun bp A outer s H E hr=>
  (aj (aX (cx (cM (aK fF (hr.mono (by decide)) rfl aG (aa (ab (pv 0)) ae) rfl))) (aj dF) aM))
abbrev gk:Stmt:=top 19
def jU:List Str:=["thing"]
def j7:List Str:=["thing"]
theorem pR:FnScope jU j7 (af gk):=⟨rfl,rfl,rfl,by decide+kernel,rfl,by decide+kernel,by decide+kernel⟩
theorem pq(B:Bl K mg base cv cA Cp)(eN:ah P w K mg base cv 1 "is_whole" 1 a6)(T:a_ K mg "need_ways" gk f):ah P w K mg base cv 2 "need_ways" 1 (d6):=
 ax (N:=jU) (ps:=j7) T pR (fun _ _ _ _ _ _ us hl=>match us,hl with | [_],_=>rfl) fun bp A outer s H E hr=>
  (aj (aX (PDW.t (f7 (cx (cM (aK eN (hr.mono (by decide)) rfl aG (aa (ab (pv 0)) ae) rfl))) (ef (wo (ab (pv 0)) (f6 (aa au (aa au ae))))))) (aj dF) aM))
abbrev gc:Stmt:=top 22
def jO:List Str:=["board","found","row"]
def jZ:List Str:=["board"]
theorem fj:FnScope jO jZ (af gc):=⟨rfl,rfl,rfl,by decide+kernel,rfl,by decide+kernel,by decide+kernel⟩
theorem pb(B:Bl K mg base cv cA Cp)(dH:ah P w K mg base cv 1 "cells_of_row" 2 aU)(T:a_ K mg "all_cells" gc f):ah P w K mg base cv 2 "all_cells" 1 (d5):=
 ax (N:=jO) (ps:=jZ) T fj (fun _ _ _ _ _ _ us hl=>match us,hl with | [_],_=>rfl) fun bp A outer s H E hr=>
  (ao (pH fj.nd rfl (by first | exact .inl rfl | exact .inr rfl)) (ao (e9 (eg PassesOwn.never rfl (cZ rfl B.range (aa (aW rfl B.len (aa (ab (pv 0)) ae)) ae)) (cf fj.nd rfl (by first | exact .inl rfl | exact .inr rfl)) dj (di (aj (AI (pv 1) (aK dH (hr.mono (by decide)) rfl cT (aa (ab (pv 0)) (aa (ab (pv 2)) ae)) rfl)))))) (aj (kH (i:=1) (av (ab (pv 1)))))))
abbrev fi:Stmt:=top 25
def iH:List Str:=["board","cell","ways","found","row","column"]
def iN:List Str:=["board","cell","ways"]
theorem c_:FnScope iH iN (af fi):=⟨rfl,rfl,rfl,by decide+kernel,rfl,by decide+kernel,by decide+kernel⟩
theorem mQ(B:Bl K mg base cv cA Cp)(sm:ah P w K mg base cv 1 "are_next" 3 cz)(T:a_ K mg "next_cells" fi f):ah P w K mg base cv 2 "next_cells" 3 (dw):=
 ax (N:=iH) (ps:=iN) T c_ (fun _ _ _ _ _ _ us hl=>match us,hl with | [_,_,_],_=>rfl) fun bp A outer s H E hr=>
  (ao (pH c_.nd rfl (by first | exact .inl rfl | exact .inr rfl)) (ao (e9 (eg PassesOwn.never rfl (hJ rfl B.range (aa (tG rfl rfl B.max rfl (aa (pE (bb (ab (pv 1)) au) au) (aa au ae))) (aa (yy rfl rfl B.min rfl (aa (b7 (bb (ab (pv 1)) au) au) (aa (aW rfl B.len (aa (ab (pv 0)) ae)) ae))) ae))) (cf c_.nd rfl (by first | exact .inl rfl | exact .inr rfl)) dj (di (aj (eg PassesOwn.never rfl (hJ rfl B.range (aa (tG rfl rfl B.max rfl (aa (pE (bb (ab (pv 1)) au) au) (aa au ae))) (aa (yy rfl rfl B.min rfl (aa (b7 (bb (ab (pv 1)) au) au) (aa (aW rfl B.len (aa (bb (ab (pv 0)) au) ae)) ae))) ae))) (cf c_.nd rfl (by first | exact .inl rfl | exact .inr rfl)) dj (di (aj (aX (cM (aK sm (hr.mono (by decide)) rfl cT (aa (ab (pv 1)) (aa (f6 (aa (ab (pv 4)) (aa (ab (pv 5)) ae))) (aa (ab (pv 2)) ae))) rfl)) (aj (uZ (pv 3) (f6 (aa (ab (pv 4)) (aa (ab (pv 5)) ae))))) aM)))))))) (aj (kH (i:=3) (av (ab (pv 3)))))))
abbrev cR:Stmt:=top 27
def cK:List Str:=["board","some","letter","marked","told","row","places"]
def fX:List Str:=["board","some","letter"]
theorem bQ:FnScope cK fX (af cR):=⟨rfl,rfl,rfl,by decide+kernel,rfl,by decide+kernel,by decide+kernel⟩
theorem ku(B:Bl K mg base cv cA Cp)(zH:ah P w K mg base cv 1 "keyed" 1 iw)(dH:ah P w K mg base cv 1 "cells_of_row" 2 aU)(fH:ah P w K mg base cv 1 "letter_of" 2 bc)(T:a_ K mg "with_letters" cR f):ah P w K mg base cv 2 "with_letters" 3 (b6):=
 ax (N:=cK) (ps:=fX) T bQ (fun _ _ _ _ _ _ us hl=>match us,hl with | [_,_,_],_=>rfl) fun bp A outer s H E hr=>
  (ao (bt bQ.nd rfl (by first | exact .inl rfl | exact .inr rfl) (aK zH (hr.mono (by decide)) rfl aG (aa (ab (pv 1)) ae) rfl)) (ao (pH bQ.nd rfl (by first | exact .inl rfl | exact .inr rfl)) (ao (e9 (eg PassesOwn.never rfl (cZ rfl B.range (aa (aW rfl B.len (aa (ab (pv 0)) ae)) ae)) (cf bQ.nd rfl (by first | exact .inl rfl | exact .inr rfl)) dj (di (ao (bt bQ.nd rfl (by first | exact .inl rfl | exact .inr rfl) (aK dH (hr.mono (by decide)) rfl cT (aa (ab (pv 0)) (aa (ab (pv 5)) ae)) rfl)) (aj (uZ (pv 4) (iO dW (aa (bV (tn:=["cell"]) (n:=0) (aZ (N:=cK) (osc:=(af cR)) rfl rfl (by decide+kernel)) rfl rfl (dh (ab (pv 6))) (fun _ _ _ _ _ _ _=>bX (show List.Nodup (((["cell"]:List Str))++bU ["cell"] cK) by decide+kernel) rfl rfl) (fun _ _ _ _ _ _=>b8) (fun _ _ _ _ _ _=>(Fs (Ds hr.units (ab (pv 0)) (ab (pv 4))) (ab (pv 3)) (aK fH (hr.mono (by decide)) rfl cT (aa (ab (pv 1)) (aa (ab (pv 0)) ae)) rfl)))) ae)))))))) (aj (kH (i:=4) (av (lT rfl B.tuple rfl (aa (ab (pv 4)) ae))))))))
abbrev gg:Stmt:=top 39
def jQ:List Str:=["_law_script","_law_k","_law_many","_law_cell_here"]
def j3:List Str:=["_law_script","_law_k","_law_many"]
theorem fk:FnScope jQ j3 (af gg):=⟨rfl,rfl,rfl,by decide+kernel,rfl,by decide+kernel,by decide+kernel⟩
theorem pf(B:Bl K mg base cv cA Cp)(sr:ah P w K mg base cv 1 "_law_cell" 2 dN)(T:a_ K mg "_law_drawn" gg f):ah P w K mg base cv 2 "_law_drawn" 3 (aI):=
 ax (N:=jQ) (ps:=j3) T fk (fun _ _ _ _ _ _ us hl=>match us,hl with | [_,_,_],_=>rfl) fun bp A outer s H E hr=>
  (ao (bt fk.nd rfl (by first | exact .inl rfl | exact .inr rfl) (jo (b7 (fZ (jo (aK sr (hr.mono (by decide)) rfl aG (aa (ab (pv 0)) (aa (ab (pv 1)) ae)) rfl) au) au) (fZ au (b7 (ab (pv 1)) au))) au)) (ao (bt fk.nd rfl (by first | exact .inl rfl | exact .inr rfl) (jo (b7 (fZ (ab (pv 3)) (ab (pv 3))) (pC (ab (pv 3)) au)) au)) (aj (av (jo (pC (jo (b7 (fZ (ab (pv 3)) (ab (pv 3))) (pC (ab (pv 3)) au)) au) au) (ab (pv 2)))))))
abbrev dX:Stmt:=top 14
def cY:List Str:=["thing"]
def lO:List Str:=["thing"]
theorem rG:FnScope cY lO (af dX):=⟨rfl,rfl,rfl,by decide+kernel,rfl,by decide+kernel,by decide+kernel⟩
theorem q0(B:Bl K mg base cv cA Cp)(xa:ah P w K mg base cv 2 "is_row" 1 dJ)(T:a_ K mg "is_board" dX f):ah P w K mg base cv 3 "is_board" 1 (eR):=
 ax (N:=cY) (ps:=lO) T rG (fun _ _ _ _ _ _ us hl=>match us,hl with | [_],_=>rfl) fun bp A outer s H E hr=>
  (ao (aX (PDW.t (f7 (cx (cM (jl rfl B.isinstance rfl (aa (ab (pv 0)) (aa (n0 rfl B.tuple rfl) ae))))) (ef (cx (yM nT nT au (aW rfl B.len (aa (ab (pv 0)) ae)) (pD rfl B.MOST_ROWS)))))) (aj (av cE)) aM) (ao (aX (cx (cM (tE rfl rfl B.all rfl (aa (bV (tn:=["row"]) (n:=0) (aZ (N:=cY) (osc:=(af dX)) rfl rfl (by decide+kernel)) rfl rfl (pF (ab (pv 0))) (fun _ _ _ _ _ _ _=>bX (show List.Nodup (((["row"]:List Str))++bU ["row"] cY) by decide+kernel) rfl rfl) (fun _ _ _ _ _ _=>b8) (fun _ _ _ _ _ _=>(aK xa (hr.mono (by decide)) rfl cT (aa (ab (pv 0)) ae) rfl))) ae)))) (aj (av cE)) aM) (aj (av (tE rfl rfl B.all rfl (aa (bV (tn:=["row"]) (n:=0) (aZ (N:=cY) (osc:=(af dX)) rfl rfl (by decide+kernel)) rfl rfl (pF (ab (pv 0))) (fun _ _ _ _ _ _ _=>bX (show List.Nodup (((["row"]:List Str))++bU ["row"] cY) by decide+kernel) rfl rfl) (fun _ _ _ _ _ _=>b8) (fun _ _ _ _ _ _=>(rl hr.units (aW rfl B.len (aa (ab (pv 0)) ae)) (aW rfl B.len (aa (bb (ab (pv 1)) au) ae))))) ae))))))
abbrev gj:Stmt:=top 17
def jT:List Str:=["board","thing"]
def j6:List Str:=["board","thing"]
theorem pQ:FnScope jT j6 (af gj):=⟨rfl,rfl,rfl,by decide+kernel,rfl,by decide+kernel,by decide+kernel⟩
theorem pk(B:Bl K mg base cv cA Cp)(vn:ah P w K mg base cv 2 "is_cell" 2 gw)(T:a_ K mg "need_cell" gj f):ah P w K mg base cv 3 "need_cell" 2 (bL):=
 ax (N:=jT) (ps:=j6) T pQ (fun _ _ _ _ _ _ us hl=>match us,hl with | [_,_],_=>rfl) fun bp A outer s H E hr=>
  (aj (aX (cx (cM (aK vn (hr.mono (by decide)) rfl aG (aa (ab (pv 0)) (aa (ab (pv 1)) ae)) rfl))) (aj dF) aM))
abbrev eh:Stmt:=top 40
def d_:List Str:=["_law_script","_law_at","_law_most","_law_rows","_law_wide","_law_alphabet","_law_found","_law_row","_law_signs"]
def j2:List Str:=["_law_script","_law_at","_law_most"]
theorem bx:FnScope d_ j2 (af eh):=⟨rfl,rfl,rfl,by decide+kernel,rfl,by decide+kernel,by decide+kernel⟩
set_option maxHeartbeats 4000000 in
theorem pe(B:Bl K mg base cv cA Cp)(bZ:ah P w K mg base cv 2 "_law_drawn" 3 aI)(T:a_ K mg "_law_board" eh f):ah P w K mg base cv 3 "_law_board" 3 (cC):=
 ax (N:=d_) (ps:=j2) T bx (fun _ _ _ _ _ _ us hl=>match us,hl with | [_,_,_],_=>rfl) fun bp A outer s H E hr=>
  (ao (bt bx.nd rfl (by first | exact .inl rfl | exact .inr rfl) (b7 au (aK bZ (hr.mono (by decide)) rfl aG (aa (ab (pv 0)) (aa (ab (pv 1)) (aa (ab (pv 2)) ae))) rfl))) (ao (bt bx.nd rfl (by first | exact .inl rfl | exact .inr rfl) (b7 au (aK bZ (hr.mono (by decide)) rfl aG (aa (ab (pv 0)) (aa (b7 (ab (pv 1)) au) (aa (ab (pv 2)) ae))) rfl))) (ao (bt bx.nd rfl (by first | exact .inl rfl | exact .inr rfl) (C5 (jm (aa dW (aa dW (aa dW (aa dW ae))))) (aK bZ (hr.mono (by decide)) rfl aG (aa (ab (pv 0)) (aa (b7 (ab (pv 1)) au) (aa au ae))) rfl))) (ao (bt bx.nd rfl (by first | exact .inl rfl | exact .inr rfl) (f6 ae)) (ao (e9 (eg PassesOwn.never rfl (cZ rfl B.range (aa (ab (pv 3)) ae)) (cf bx.nd rfl (by first | exact .inl rfl | exact .inr rfl)) dj (di (ao (rz (tn:=["_law_k"]) (n:=0) bx.nd rfl (by first | exact .inl rfl | exact .inr rfl) (aZ (N:=d_) (osc:=(af eh)) rfl rfl (by decide+kernel)) rfl rfl (cZ rfl B.range (aa (ab (pv 4)) ae)) (fun _ _ _ _ _ _ _=>bX (show List.Nodup (((["_law_k"]:List Str))++bU ["_law_k"] d_) by decide+kernel) rfl rfl) (fun _ _ _ _ _ _=>b8) (fun _ _ _ _ _ _=>(tF (ab (pv 6)) (aK bZ (hr.mono (by decide)) rfl cT (aa (ab (pv 1)) (aa (b7 (b7 (b7 (ab (pv 2)) au) (fZ au (ab (pv 8)))) (ab (pv 0))) (aa (aW rfl B.len (aa (ab (pv 6)) ae)) ae))) rfl)))) (aj (bt bx.nd rfl (by first | exact .inl rfl | exact .inr rfl) (uU (ab (pv 6)) (f6 (aa (iO dW (aa (ab (pv 8)) ae)) ae))))))))) (aj (av (ab (pv 6)))))))))
abbrev eo:Stmt:=top 41
def gQ:List Str:=["_law_script","_law_at","_law_board_here"]
def gW:List Str:=["_law_script","_law_at","_law_board_here"]
theorem l9:FnScope gQ gW (af eo):=⟨rfl,rfl,rfl,by decide+kernel,rfl,by decide+kernel,by decide+kernel⟩
theorem lK(B:Bl K mg base cv cA Cp)(bZ:ah P w K mg base cv 2 "_law_drawn" 3 aI)(T:a_ K mg "_law_cell_in" eo f):ah P w K mg base cv 3 "_law_cell_in" 3 (c7):=
 ax (N:=gQ) (ps:=gW) T l9 (fun _ _ _ _ _ _ us hl=>match us,hl with | [_,_,_],_=>rfl) fun bp A outer s H E hr=>
  (aj (av (f6 (aa (aK bZ (hr.mono (by decide)) rfl aG (aa (ab (pv 0)) (aa (ab (pv 1)) (aa (aW rfl B.len (aa (ab (pv 2)) ae)) ae))) rfl) (aa (aK bZ (hr.mono (by decide)) rfl aG (aa (ab (pv 0)) (aa (b7 (ab (pv 1)) au) (aa (aW rfl B.len (aa (bb (ab (pv 2)) au) ae)) ae))) rfl) ae)))))
abbrev fg:Stmt:=top 16
def iG:List Str:=["thing"]
def iM:List Str:=["thing"]
theorem mT:FnScope iG iM (af fg):=⟨rfl,rfl,rfl,by decide+kernel,rfl,by decide+kernel,by decide+kernel⟩
theorem mP(B:Bl K mg base cv cA Cp)(sq:ah P w K mg base cv 3 "is_board" 1 eR)(T:a_ K mg "need_board" fg f):ah P w K mg base cv 4 "need_board" 1 (az):=
 ax (N:=iG) (ps:=iM) T mT (fun _ _ _ _ _ _ us hl=>match us,hl with | [_],_=>rfl) fun bp A outer s H E hr=>
  (aj (aX (cx (cM (aK sq (hr.mono (by decide)) rfl aG (aa (ab (pv 0)) ae) rfl))) (aj dF) aM))
abbrev pL:Stmt:=top 28
def uN:List Str:=["board"]
def uS:List Str:=["board"]
theorem y6:FnScope uN uS (af pL):=⟨rfl,rfl,rfl,by decide+kernel,rfl,by decide+kernel,by decide+kernel⟩
theorem ym(B:Bl K mg base cv cA Cp)(aF:ah P w K mg base cv 4 "need_board" 1 az)(qg:ah P w K mg base cv 2 "all_cells" 1 d5)(T:a_ K mg "cells" pL f):ah P w K mg base cv 5 "cells" 1 (iu):=
 ax (N:=uN) (ps:=uS) T y6 (fun _ _ _ _ _ _ us hl=>match us,hl with | [_],_=>rfl) fun bp A outer s H E hr=>
  (ao (bN (aK aF (hr.mono (by decide)) rfl aG (aa (ab (pv 0)) ae) rfl)) (aj (av (aK qg (hr.mono (by decide)) rfl aG (aa (ab (pv 0)) ae) rfl))))
abbrev gh:Stmt:=top 29
def jR:List Str:=["board","cell"]
def j4:List Str:=["board","cell"]
theorem pO:FnScope jR j4 (af gh):=⟨rfl,rfl,rfl,by decide+kernel,rfl,by decide+kernel,by decide+kernel⟩
theorem ph(B:Bl K mg base cv cA Cp)(aF:ah P w K mg base cv 4 "need_board" 1 az)(da:ah P w K mg base cv 3 "need_cell" 2 bL)(fH:ah P w K mg base cv 1 "letter_of" 2 bc)(T:a_ K mg "letter_at" gh f):ah P w K mg base cv 5 "letter_at" 2 (aV):=
 ax (N:=jR) (ps:=j4) T pO (fun _ _ _ _ _ _ us hl=>match us,hl with | [_,_],_=>rfl) fun bp A outer s H E hr=>
  (ao (bN (aK aF (hr.mono (by decide)) rfl aG (aa (ab (pv 0)) ae) rfl)) (ao (bN (aK da (hr.mono (by decide)) rfl aG (aa (ab (pv 0)) (aa (ab (pv 1)) ae)) rfl)) (aj (av (aK fH (hr.mono (by decide)) rfl aG (aa (ab (pv 0)) (aa (ab (pv 1)) ae)) rfl)))))
abbrev et:Stmt:=top 30
def gS:List Str:=["board","cell","letter"]
def gY:List Str:=["board","cell","letter"]
theorem md:FnScope gS gY (af et):=⟨rfl,rfl,rfl,by decide+kernel,rfl,by decide+kernel,by decide+kernel⟩
theorem lM(B:Bl K mg base cv cA Cp)(aF:ah P w K mg base cv 4 "need_board" 1 az)(da:ah P w K mg base cv 3 "need_cell" 2 bL)(mB:ah P w K mg base cv 2 "need_letter" 1 c8)(kT:ah P w K mg base cv 2 "with_letters" 3 b6)(T:a_ K mg "with_letter" et f):ah P w K mg base cv 5 "with_letter" 3 (bf):=
 ax (N:=gS) (ps:=gY) T md (fun _ _ _ _ _ _ us hl=>match us,hl with | [_,_,_],_=>rfl) fun bp A outer s H E hr=>
  (ao (bN (aK aF (hr.mono (by decide)) rfl aG (aa (ab (pv 0)) ae) rfl)) (ao (bN (aK da (hr.mono (by decide)) rfl aG (aa (ab (pv 0)) (aa (ab (pv 1)) ae)) rfl)) (ao (bN (aK mB (hr.mono (by decide)) rfl aG (aa (ab (pv 2)) ae) rfl)) (aj (av (aK kT (hr.mono (by decide)) rfl aG (aa (ab (pv 0)) (aa (jm (aa (ab (pv 1)) ae)) (aa (ab (pv 2)) ae))) rfl))))))
abbrev l7:Stmt:=top 31
def qS:List Str:=["board","cell","ways"]
def ri:List Str:=["board","cell","ways"]
theorem wx:FnScope qS ri (af l7):=⟨rfl,rfl,rfl,by decide+kernel,rfl,by decide+kernel,by decide+kernel⟩
theorem v9(B:Bl K mg base cv cA Cp)(aF:ah P w K mg base cv 4 "need_board" 1 az)(da:ah P w K mg base cv 3 "need_cell" 2 bL)(qh:ah P w K mg base cv 2 "need_ways" 1 d6)(oD:ah P w K mg base cv 2 "next_cells" 3 dw)(T:a_ K mg "beside" l7 f):ah P w K mg base cv 5 "beside" 3 (bP):=
 ax (N:=qS) (ps:=ri) T wx (fun _ _ _ _ _ _ us hl=>match us,hl with | [_,_,_],_=>rfl) fun bp A outer s H E hr=>
  (ao (bN (aK aF (hr.mono (by decide)) rfl aG (aa (ab (pv 0)) ae) rfl)) (ao (bN (aK da (hr.mono (by decide)) rfl aG (aa (ab (pv 0)) (aa (ab (pv 1)) ae)) rfl)) (ao (bN (aK qh (hr.mono (by decide)) rfl aG (aa (ab (pv 2)) ae) rfl)) (aj (av (aK oD (hr.mono (by decide)) rfl aG (aa (ab (pv 0)) (aa (ab (pv 1)) (aa (ab (pv 2)) ae))) rfl))))))
abbrev iT:Stmt:=top 33
def iI:List Str:=["board"]
def rk:List Str:=["board"]
theorem wz:FnScope iI rk (af iT):=⟨rfl,rfl,rfl,by decide+kernel,rfl,by decide+kernel,by decide+kernel⟩
theorem wa(B:Bl K mg base cv cA Cp)(aF:ah P w K mg base cv 4 "need_board" 1 az)(gG:ah P w K mg base cv 1 "column_from_below" 2 ba)(T:a_ K mg "turned" iT f):ah P w K mg base cv 5 "turned" 1 (bG):=
 ax (N:=iI) (ps:=rk) T wz (fun _ _ _ _ _ _ us hl=>match us,hl with | [_],_=>rfl) fun bp A outer s H E hr=>
  (ao (bN (aK aF (hr.mono (by decide)) rfl aG (aa (ab (pv 0)) ae) rfl)) (aj (av (lT rfl B.tuple rfl (aa (bV (tn:=["column"]) (n:=0) (aZ (N:=iI) (osc:=(af iT)) rfl rfl (by decide+kernel)) rfl rfl (cZ rfl B.range (aa (aW rfl B.len (aa (bb (ab (pv 0)) au) ae)) ae)) (fun _ _ _ _ _ _ _=>bX (show List.Nodup (((["column"]:List Str))++bU ["column"] iI) by decide+kernel) rfl rfl) (fun _ _ _ _ _ _=>b8) (fun _ _ _ _ _ _=>(aK gG (hr.mono (by decide)) rfl cT (aa (ab (pv 1)) (aa (ab (pv 0)) ae)) rfl))) ae)))))
abbrev fe:Stmt:=top 34
def eZ:List Str:=["board"]
def lR:List Str:=["board"]
theorem rK:FnScope eZ lR (af fe):=⟨rfl,rfl,rfl,by decide+kernel,rfl,by decide+kernel,by decide+kernel⟩
theorem ra(B:Bl K mg base cv cA Cp)(aF:ah P w K mg base cv 4 "need_board" 1 az)(T:a_ K mg "mirrored" fe f):ah P w K mg base cv 5 "mirrored" 1 (bq):=
 ax (N:=eZ) (ps:=lR) T rK (fun _ _ _ _ _ _ us hl=>match us,hl with | [_],_=>rfl) fun bp A outer s H E hr=>
  (ao (bN (aK aF (hr.mono (by decide)) rfl aG (aa (ab (pv 0)) ae) rfl)) (aj (av (lT rfl B.tuple rfl (aa (bV (tn:=["row"]) (n:=0) (aZ (N:=eZ) (osc:=(af fe)) rfl rfl (by decide+kernel)) rfl rfl (pF (ab (pv 0))) (fun _ _ _ _ _ _ _=>bX (show List.Nodup (((["row"]:List Str))++bU ["row"] eZ) by decide+kernel) rfl rfl) (fun _ _ _ _ _ _=>b8) (fun _ _ _ _ _ _=>(C9 (ab (pv 0)) (C7 au)))) ae)))))
abbrev jz:Stmt:=top 35
def nO:List Str:=["one","other"]
def nX:List Str:=["one","other"]
theorem tN:FnScope nO nX (af jz):=⟨rfl,rfl,rfl,by decide+kernel,rfl,by decide+kernel,by decide+kernel⟩
theorem tq(B:Bl K mg base cv cA Cp)(aF:ah P w K mg base cv 4 "need_board" 1 az)(su:ah P w K mg base cv 1 "need_fit" 2 eS)(T:a_ K mg "stacked" jz f):ah P w K mg base cv 5 "stacked" 2 (gy):=
 ax (N:=nO) (ps:=nX) T tN (fun _ _ _ _ _ _ us hl=>match us,hl with | [_,_],_=>rfl) fun bp A outer s H E hr=>
  (ao (bN (aK aF (hr.mono (by decide)) rfl aG (aa (ab (pv 0)) ae) rfl)) (ao (bN (aK aF (hr.mono (by decide)) rfl aG (aa (ab (pv 1)) ae) rfl)) (ao (bN (aK su (hr.mono (by decide)) rfl aG (aa (ab (pv 0)) (aa (ab (pv 1)) ae)) rfl)) (aj (av (uU (ab (pv 0)) (ab (pv 1))))))))
abbrev gE:Stmt:=top 36
def gA:List Str:=["board","signs"]
def nW:List Str:=["board"]
theorem l_:FnScope gA nW (af gE):=⟨rfl,rfl,rfl,by decide+kernel,rfl,by decide+kernel,by decide+kernel⟩
theorem tm(B:Bl K mg base cv cA Cp)(aF:ah P w K mg base cv 4 "need_board" 1 az)(T:a_ K mg "letters" gE f):ah P w K mg base cv 5 "letters" 1 (a7):=
 ax (N:=gA) (ps:=nW) T l_ (fun _ _ _ _ _ _ us hl=>match us,hl with | [_],_=>rfl) fun bp A outer s H E hr=>
  (ao (bN (aK aF (hr.mono (by decide)) rfl aG (aa (ab (pv 0)) ae) rfl)) (ao (bt l_.nd rfl (by first | exact .inl rfl | exact .inr rfl) (iO dW (aa (ab (pv 0)) ae))) (aj (av (bV (tn:=["letter"]) (n:=0) (aZ (N:=gA) (osc:=(af gE)) rfl rfl (by decide+kernel)) rfl rfl (uY (uX rfl B.LETTERS (by decide))) (fun _ _ _ _ _ _ _=>bX (show List.Nodup (((["letter"]:List Str))++bU ["letter"] gA) by decide+kernel) rfl rfl) (fun _ _ _ _ _ _=>(iZ (Dt (ab (pv 0)) (ab (pv 2))))) (fun _ _ _ _ _ _=>(f6 (aa (ab (pv 0)) (aa (Ar (ab (pv 2)) (aa (ab (pv 0)) ae)) ae)))))))))
abbrev cQ:Stmt:=top 42
def cb:List Str:=["_law_script","_law_board_here","_law_some","_law_cell_here","_law_new","_law_row"]
def iL:List Str:=["_law_script","_law_board_here","_law_some"]
theorem c9:FnScope cb iL (af cQ):=⟨rfl,rfl,rfl,by decide+kernel,rfl,by decide+kernel,by decide+kernel⟩
set_option maxHeartbeats 4000000 in
theorem mO(B:Bl K mg base cv cA Cp)(mz:ah P w K mg base cv 3 "_law_cell_in" 3 c7)(ck:ah P w K mg base cv 5 "with_letter" 3 bf)(bK:ah P w K mg base cv 5 "letter_at" 2 aV)(vo:ah P w K mg base cv 5 "stacked" 2 gy)(T:a_ K mg "_law_is_put" cQ f):ah P w K mg base cv 6 "_law_is_put" 3 (cH):=
 ax (N:=cb) (ps:=iL) T c9 (fun _ _ _ _ _ _ us hl=>match us,hl with | [_,_,_],_=>rfl) fun bp A outer s H E hr=>
  (ao (bt c9.nd rfl (by first | exact .inl rfl | exact .inr rfl) (aK mz (hr.mono (by decide)) rfl aG (aa (ab (pv 0)) (aa au (aa (ab (pv 1)) ae))) rfl)) (ao (bt c9.nd rfl (by first | exact .inl rfl | exact .inr rfl) (aK ck (hr.mono (by decide)) rfl aG (aa (ab (pv 1)) (aa (ab (pv 3)) (aa dW ae))) rfl)) (ao (aX (cN hr.units (aK bK (hr.mono (by decide)) rfl aG (aa (ab (pv 4)) (aa (ab (pv 3)) ae)) rfl) dW) (aj (av cE)) aM) (ao (aX (cN hr.units (bV (tn:=["_law_one"]) (n:=0) (aZ (N:=cb) (osc:=(af cQ)) rfl rfl (by decide+kernel)) rfl rfl (dh (ab (pv 2))) (fun _ _ _ _ _ _ _=>bX (show List.Nodup (((["_law_one"]:List Str))++bU ["_law_one"] cb) by decide+kernel) rfl rfl) (fun _ _ _ _ _ _=>(iZ (PDW.t (Aw (cN hr.units (ab (pv 0)) (ab (pv 4))) (yA (cN hr.units (aK bK (hr.mono (by decide)) rfl cT (aa (ab (pv 5)) (aa (ab (pv 0)) ae)) rfl) (aK bK (hr.mono (by decide)) rfl cT (aa (ab (pv 2)) (aa (ab (pv 0)) ae)) rfl))))))) (fun _ _ _ _ _ _=>(ab (pv 0)))) (jm ae)) (aj (av cE)) aM) (ao (e9 (eg PassesOwn.never rfl (hJ rfl B.range (aa au (aa (aW rfl B.len (aa (ab (pv 1)) ae)) ae))) (cf c9.nd rfl (by first | exact .inl rfl | exact .inr rfl)) dj (di (aj (aX (cN hr.units (aK vo (hr.mono (by decide)) rfl cT (aa (BH (ab (pv 1)) rm (rn (ab (pv 5)))) (aa (BH (ab (pv 1)) (rn (ab (pv 5))) rm) ae)) rfl) (ab (pv 1))) (aj (av cE)) aM))))) (aj (av (rl hr.units (bV (tn:=["_law_cell_here"]) (n:=0) (aZ (N:=cb) (osc:=(af cQ)) rfl rfl (by decide+kernel)) rfl rfl (dh (ab (pv 2))) (fun _ _ _ _ _ _ _=>bX (show List.Nodup (((["_law_cell_here"]:List Str))++bU ["_law_cell_here"] cb) by decide+kernel) rfl rfl) (fun _ _ _ _ _ _=>b8) (fun _ _ _ _ _ _=>(aK bK (hr.mono (by decide)) rfl cT (aa (ab (pv 2)) (aa (ab (pv 0)) ae)) rfl))) (yx rfl rfl B.list rfl (aa (iO dW (aa (ab (pv 1)) ae)) ae))))))))))
abbrev aq:Stmt:=top 43
def aL:List Str:=["_law_script","_law_board_here","_law_some","_law_cell_here","_law_nigh","_law_wide"]
def jk:List Str:=["_law_script"]
theorem c0:FnScope aL jk (af aq):=⟨rfl,rfl,rfl,by decide+kernel,rfl,by decide+kernel,by decide+kernel⟩
set_option maxHeartbeats 4000000 in
theorem pT(B:Bl K mg base cv cA Cp)(fG:ah P w K mg base cv 3 "_law_board" 3 cC){bp:Value}{A:Around}{outer:List Env}{s:Shared}{H:Hp}{E:XK}(hr:Room 6 (A.deeper (envOfC "law" (af aq) s.heap.objs.size f bp))):
 Box (g0 (de (i7 P w cv) P w K mg base aL "law" (af aq) f bp A outer s H E) (fun n H'=>E (cv n) none H') ((aO aq).getD 0 (.Pass ⟨0,0,0,0⟩)) j_):=
 ⟨(bt c0.nd rfl (by first | exact .inl rfl | exact .inr rfl) (aK fG (hr.mono (by decide)) rfl aG (aa (ab (pv 0)) (aa au (aa au ae))) rfl))⟩
set_option maxHeartbeats 4000000 in
theorem pU(B:Bl K mg base cv cA Cp)(oC:ah P w K mg base cv 5 "cells" 1 iu){bp:Value}{A:Around}{outer:List Env}{s:Shared}{H:Hp}{E:XK}(hr:Room 6 (A.deeper (envOfC "law" (af aq) s.heap.objs.size f bp))):
 Box (g0 (de (i7 P w cv) P w K mg base aL "law" (af aq) f bp A outer s H E) (fun n H'=>E (cv n) none H') ((aO aq).getD 1 (.Pass ⟨0,0,0,0⟩)) kc):=
 ⟨(bt c0.nd rfl (by first | exact .inl rfl | exact .inr rfl) (aK oC (hr.mono (by decide)) rfl aG (aa (ab (pv 1)) ae) rfl))⟩
set_option maxHeartbeats 4000000 in
theorem pV(B:Bl K mg base cv cA Cp){bp:Value}{A:Around}{outer:List Env}{s:Shared}{H:Hp}{E:XK}(hr:Room 6 (A.deeper (envOfC "law" (af aq) s.heap.objs.size f bp))):
 Box (g0 (de (i7 P w cv) P w K mg base aL "law" (af aq) f bp A outer s H E) (fun n H'=>E (cv n) none H') ((aO aq).getD 2 (.Pass ⟨0,0,0,0⟩)) ke):=
 ⟨(aX (PDW.t (f7 (cN hr.units (ab (pv 2)) (wg rfl hr.units rfl B.sorted rfl B.set rfl rfl (ab (pv 2)))) (ef (cN hr.units (aW rfl B.len (aa (ab (pv 2)) ae)) (fZ (aW rfl B.len (aa (ab (pv 1)) ae)) (aW rfl B.len (aa (bb (ab (pv 1)) au) ae))))))) (aj (av cE)) aM)⟩
set_option maxHeartbeats 4000000 in
theorem pW(B:Bl K mg base cv cA Cp)(ez:ah P w K mg base cv 5 "beside" 3 bP)(ck:ah P w K mg base cv 5 "with_letter" 3 bf)(bK:ah P w K mg base cv 5 "letter_at" 2 aV){bp:Value}{A:Around}{outer:List Env}{s:Shared}{H:Hp}{E:XK}(hr:Room 6 (A.deeper (envOfC "law" (af aq) s.heap.objs.size f bp))):
 Box (g0 (de (i7 P w cv) P w K mg base aL "law" (af aq) f bp A outer s H E) (fun n H'=>E (cv n) none H') ((aO aq).getD 3 (.Pass ⟨0,0,0,0⟩)) kf):=
 ⟨(e9 (eg PassesOwn.never rfl (dh (ab (pv 2))) (cf c0.nd rfl (by first | exact .inl rfl | exact .inr rfl)) dj (di (ao (bt c0.nd rfl (by first | exact .inl rfl | exact .inr rfl) (aK ez (hr.mono (by decide)) rfl cT (aa (ab (pv 1)) (aa (ab (pv 3)) (aa au ae))) rfl)) (ao (bt c0.nd rfl (by first | exact .inl rfl | exact .inr rfl) (aK ez (hr.mono (by decide)) rfl cT (aa (ab (pv 1)) (aa (ab (pv 3)) (aa au ae))) rfl)) (ao (aX (cN hr.units (bV (tn:=["_law_there"]) (n:=0) (aZ (N:=aL) (osc:=(af aq)) rfl rfl (by decide+kernel)) rfl rfl (dh (ab (pv 4))) (fun _ _ _ _ _ _ _=>bX (show List.Nodup (((["_law_there"]:List Str))++bU ["_law_there"] aL) by decide+kernel) rfl rfl) (fun _ _ _ _ _ _=>(iZ (PDW.t (f7 (jr hr.units (ab (pv 0)) (ab (pv 6))) (ef (jr hr.units (ab (pv 4)) (aK ez (hr.mono (by decide)) rfl cT (aa (ab (pv 2)) (aa (ab (pv 0)) (aa au ae))) rfl))))))) (fun _ _ _ _ _ _=>(ab (pv 0)))) (jm ae)) (aj (av cE)) aM) (ao (aX (cN hr.units (bV (tn:=["_law_there"]) (n:=0) (aZ (N:=aL) (osc:=(af aq)) rfl rfl (by decide+kernel)) rfl rfl (dh (ab (pv 5))) (fun _ _ _ _ _ _ _=>bX (show List.Nodup (((["_law_there"]:List Str))++bU ["_law_there"] aL) by decide+kernel) rfl rfl) (fun _ _ _ _ _ _=>(iZ (PDW.t (f7 (jr hr.units (ab (pv 4)) (aK ez (hr.mono (by decide)) rfl cT (aa (ab (pv 2)) (aa (ab (pv 0)) (aa au ae))) rfl)) (ef (yO hr.units (ab (pv 0)) (ab (pv 4)))))))) (fun _ _ _ _ _ _=>(ab (pv 0)))) (jm ae)) (aj (av cE)) aM) (ao (aX (cN hr.units (ab (pv 5)) (C_ rfl B.sorted rfl (aa (ab (pv 5)) ae))) (aj (av cE)) aM) (aj (aX (cN hr.units (aK ck (hr.mono (by decide)) rfl cT (aa (ab (pv 1)) (aa (ab (pv 3)) (aa (aK bK (hr.mono (by decide)) rfl cT (aa (ab (pv 1)) (aa (ab (pv 3)) ae)) rfl) ae))) rfl) (ab (pv 1))) (aj (av cE)) aM))))))))))⟩
set_option maxHeartbeats 4000000 in
theorem pX(B:Bl K mg base cv cA Cp)(bE:ah P w K mg base cv 5 "turned" 1 bG){bp:Value}{A:Around}{outer:List Env}{s:Shared}{H:Hp}{E:XK}(hr:Room 6 (A.deeper (envOfC "law" (af aq) s.heap.objs.size f bp))):
 Box (g0 (de (i7 P w cv) P w K mg base aL "law" (af aq) f bp A outer s H E) (fun n H'=>E (cv n) none H') ((aO aq).getD 4 (.Pass ⟨0,0,0,0⟩)) kg):=
 ⟨(aX (cN hr.units (aK bE (hr.mono (by decide)) rfl aG (aa (aK bE (hr.mono (by decide)) rfl aG (aa (aK bE (hr.mono (by decide)) rfl aG (aa (aK bE (hr.mono (by decide)) rfl aG (aa (ab (pv 1)) ae) rfl) ae) rfl) ae) rfl) ae) rfl) (ab (pv 1))) (aj (av cE)) aM)⟩
set_option maxHeartbeats 4000000 in
theorem pY(B:Bl K mg base cv cA Cp)(bo:ah P w K mg base cv 5 "mirrored" 1 bq){bp:Value}{A:Around}{outer:List Env}{s:Shared}{H:Hp}{E:XK}(hr:Room 6 (A.deeper (envOfC "law" (af aq) s.heap.objs.size f bp))):
 Box (g0 (de (i7 P w cv) P w K mg base aL "law" (af aq) f bp A outer s H E) (fun n H'=>E (cv n) none H') ((aO aq).getD 5 (.Pass ⟨0,0,0,0⟩)) kh):=
 ⟨(aX (cN hr.units (aK bo (hr.mono (by decide)) rfl aG (aa (aK bo (hr.mono (by decide)) rfl aG (aa (ab (pv 1)) ae) rfl) ae) rfl) (ab (pv 1))) (aj (av cE)) aM)⟩
set_option maxHeartbeats 4000000 in
theorem pZ(B:Bl K mg base cv cA Cp)(bE:ah P w K mg base cv 5 "turned" 1 bG)(bo:ah P w K mg base cv 5 "mirrored" 1 bq){bp:Value}{A:Around}{outer:List Env}{s:Shared}{H:Hp}{E:XK}(hr:Room 6 (A.deeper (envOfC "law" (af aq) s.heap.objs.size f bp))):
 Box (g0 (de (i7 P w cv) P w K mg base aL "law" (af aq) f bp A outer s H E) (fun n H'=>E (cv n) none H') ((aO aq).getD 6 (.Pass ⟨0,0,0,0⟩)) ki):=
 ⟨(aX (cN hr.units (aK bE (hr.mono (by decide)) rfl aG (aa (aK bo (hr.mono (by decide)) rfl aG (aa (aK bE (hr.mono (by decide)) rfl aG (aa (aK bo (hr.mono (by decide)) rfl aG (aa (ab (pv 1)) ae) rfl) ae) rfl) ae) rfl) ae) rfl) (ab (pv 1))) (aj (av cE)) aM)⟩
set_option maxHeartbeats 4000000 in
theorem p0(B:Bl K mg base cv cA Cp)(bE:ah P w K mg base cv 5 "turned" 1 bG)(bD:ah P w K mg base cv 5 "letters" 1 a7){bp:Value}{A:Around}{outer:List Env}{s:Shared}{H:Hp}{E:XK}(hr:Room 6 (A.deeper (envOfC "law" (af aq) s.heap.objs.size f bp))):
 Box (g0 (de (i7 P w cv) P w K mg base aL "law" (af aq) f bp A outer s H E) (fun n H'=>E (cv n) none H') ((aO aq).getD 7 (.Pass ⟨0,0,0,0⟩)) kj):=
 ⟨(aX (cN hr.units (aK bD (hr.mono (by decide)) rfl aG (aa (aK bE (hr.mono (by decide)) rfl aG (aa (ab (pv 1)) ae) rfl) ae) rfl) (aK bD (hr.mono (by decide)) rfl aG (aa (ab (pv 1)) ae) rfl)) (aj (av cE)) aM)⟩
set_option maxHeartbeats 4000000 in
theorem p3(B:Bl K mg base cv cA Cp)(bD:ah P w K mg base cv 5 "letters" 1 a7){bp:Value}{A:Around}{outer:List Env}{s:Shared}{H:Hp}{E:XK}(hr:Room 6 (A.deeper (envOfC "law" (af aq) s.heap.objs.size f bp))):
 Box (g0 (de (i7 P w cv) P w K mg base aL "law" (af aq) f bp A outer s H E) (fun n H'=>E (cv n) none H') ((aO aq).getD 8 (.Pass ⟨0,0,0,0⟩)) kl):=
 ⟨(aX (cN hr.units (As rfl rfl B.sum rfl (aa (bV (tn:=["_law_letter","_law_many"]) (n:=2) (aZ (N:=aL) (osc:=(af aq)) rfl rfl (by decide+kernel)) rfl rfl (dh (aK bD (hr.mono (by decide)) rfl aG (aa (ab (pv 1)) ae) rfl)) (fun _ _ _ _ _ _ _=>DP (show List.Nodup (((["_law_letter","_law_many"]:List Str))++bU ["_law_letter","_law_many"] aL) by decide+kernel) rfl rfl rfl rfl rfl) (fun _ _ _ _ _ _=>b8) (fun _ _ _ _ _ _=>(ab (pv 1)))) ae)) (aW rfl B.len (aa (ab (pv 2)) ae))) (aj (av cE)) aM)⟩
set_option maxHeartbeats 4000000 in
theorem p4(B:Bl K mg base cv cA Cp)(bo:ah P w K mg base cv 5 "mirrored" 1 bq)(bD:ah P w K mg base cv 5 "letters" 1 a7){bp:Value}{A:Around}{outer:List Env}{s:Shared}{H:Hp}{E:XK}(hr:Room 6 (A.deeper (envOfC "law" (af aq) s.heap.objs.size f bp))):
 Box (g0 (de (i7 P w cv) P w K mg base aL "law" (af aq) f bp A outer s H E) (fun n H'=>E (cv n) none H') ((aO aq).getD 9 (.Pass ⟨0,0,0,0⟩)) km):=
 ⟨(aX (cN hr.units (aK bD (hr.mono (by decide)) rfl aG (aa (aK bo (hr.mono (by decide)) rfl aG (aa (ab (pv 1)) ae) rfl) ae) rfl) (aK bD (hr.mono (by decide)) rfl aG (aa (ab (pv 1)) ae) rfl)) (aj (av cE)) aM)⟩
set_option maxHeartbeats 4000000 in
theorem mW(B:Bl K mg base cv cA Cp)(eO:ah P w K mg base cv 6 "_law_is_put" 3 cH){bp:Value}{A:Around}{outer:List Env}{s:Shared}{H:Hp}{E:XK}(hr:Room 6 (A.deeper (envOfC "law" (af aq) s.heap.objs.size f bp))):
 Box (g0 (de (i7 P w cv) P w K mg base aL "law" (af aq) f bp A outer s H E) (fun n H'=>E (cv n) none H') ((aO aq).getD 10 (.Pass ⟨0,0,0,0⟩)) i5):=
 ⟨(av (aK eO (hr.mono (by decide)) rfl aG (aa (ab (pv 0)) (aa (ab (pv 1)) (aa (ab (pv 2)) ae))) rfl))⟩
set_option maxHeartbeats 4000000 in
theorem qY{fd:FuncData}(B:Bl K mg base cv cA Cp)(fG:ah P w K mg base cv 3 "_law_board" 3 cC)(oC:ah P w K mg base cv 5 "cells" 1 iu)(eO:ah P w K mg base cv 6 "_law_is_put" 3 cH)(ez:ah P w K mg base cv 5 "beside" 3 bP)(bE:ah P w K mg base cv 5 "turned" 1 bG)(bo:ah P w K mg base cv 5 "mirrored" 1 bq)(bD:ah P w K mg base cv 5 "letters" 1 a7)(ck:ah P w K mg base cv 5 "with_letter" 3 bf)(bK:ah P w K mg base cv 5 "letter_at" 2 aV)(Fn:Fun K "law" "law" aq f fd):FnOk P w K mg base (i7 P w cv) 7 f fd jk (D8 K cv 1 gx):=
 Ey (N:=aL) (ps:=jk) (τ:=jI) Fn c0 fun bp A outer s H E hr=>by
  obtain⟨K8⟩:Box (PSDs (de (i7 P w cv) P w K mg base aL "law" (af aq) f bp A outer s H E) (fun n H'=>E (cv n) none H') (aO aq) jI):=(ei (pT B fG hr) (ei (pU B oC hr) (ei (pV B hr) (ei (pW B ez ck bK hr) (ei (pX B bE hr) (ei (pY B bo hr) (ei (pZ B bE bo hr) (ei (p0 B bE bD hr) (ei (p3 B bD hr) (ei (p4 B bo bD hr) (BS (mW B eO hr))))))))))))
  assumption
end
end K1
namespace K1
open PySem L2 L3
theorem x_{ds:List D}(h:ds.length≤lim):dr ds=M.ret (.lst ds):=if_pos h
theorem dm:lim=4096:=rfl
theorem fE{α:Type}{xs:List α}{i:Nat}{x:α}(h:xs[i]? =some x):L2.atI xs (i:Int)=some x:=by
 obtain⟨hi,e⟩:=List.getElem?_eq_some_iff.mp h
 unfold L2.atI Cz
 rw[if_pos (Int.natCast_nonneg i),if_pos (by exact Int.ofNat_lt.mpr hi)]
 exact h
theorem ag{m:Nat}{g:List D→M D}{δs:DA}{ρ:aY}{ds:List D}(h:δs ρ=M.ret ds)(hl:ds.length=m):ak m g δs ρ=g ds:=by
 unfold ak
 rw[h]
 exact if_pos hl
theorem aE{a:DE}{r:DA}{ρ:aY}{x:D}{xs:List D}(h1:a ρ=M.ret x)(h2:r ρ=M.ret xs):aC a r ρ=M.ret (x::xs):=by
 unfold aC
 rw[h1,ai,h2]
 rfl
theorem aQ{g:D→D→M D}{a b:DE}{ρ:aY}{x y:D}(h1:a ρ=M.ret x)(h2:b ρ=M.ret y):d2 g a b ρ=g x y:=by
 unfold d2
 rw[h1,ai,h2]
 rfl
theorem b0{g:List D→M D}{a:DA}{ρ:aY}{xs:List D}(h:a ρ=M.ret xs):dA g a ρ=g xs:=by
 unfold dA
 rw[h]
 rfl
theorem eC{i j:Int}(h:0<j):iz (.int i) (.int j)=M.ret (.int (i % j)):=by
 show (if decide (0<j)=true then _ else _)=_
 rw[if_pos (decide_eq_true h)]
theorem iy{i j:Int}(h:0<j)(h2:j<1073741824):mG (.int i) (.int j)=M.ret (.int (i / j)):=by
 show (if decide (0<j∧j<1073741824)=true then _ else _)=_
 rw[if_pos (decide_eq_true ⟨h,h2⟩)]
theorem dO{i j:Int}(h:(-(2 ^ 64)<i∧i<2 ^ 64)∨(-(2 ^ 64)<j∧j<2 ^ 64)):eT (.int i) (.int j)=M.ret (.int (i*j)):=by
 show (if decide _=true then _ else _)=_
 rw[if_pos (decide_eq_true h)]
theorem fL{i j:Int}:cI (.int i) (.int j)=M.ret (.int (i+j)):=rfl
theorem xg(ns:List Int)(hl:ns.length≤63)(k:Nat):∃v,dN [.scr ns, .int (k:Int)]=M.ret (.int v):=by
 cases ns with
 |nil=>
  refine⟨7*(k:Int),?_⟩
  rfl
 |cons n r=>
  have hp:0<(n::r).length:=Nat.succ_pos _
  generalize e:(n::r)=ns at*
  have he:fJ 6 (.scr ns) (.lst [])=some false:=by subst e;rfl
  obtain⟨y,hy⟩:∃y,ns[k % ns.length]? =some y:=⟨_,List.getElem?_eq_getElem (Nat.mod_lt _ hp)⟩
  have I_:(0:Int)<(ns.length:Int):=by omega
  have h1:iz (.int (k:Int)) (.int (ns.length:Int))=M.ret (.int ((k % ns.length:Nat):Int)):=eC I_
  have h2:mG (.int (k:Int)) (.int (ns.length:Int))=M.ret (.int ((k:Int) / (ns.length:Int))):=iy I_ (by omega)
  have h3:xA (.scr ns) (.int ((k % ns.length:Nat):Int))=M.ret (.int y):=by
   show (match L2.atI ns ((k % ns.length:Nat):Int) with | some n=>M.ret (D.int n) | none=>M.stuck)=_
   rw[fE hy]
  have h4:eT (.int 6553) (.int ((k:Int) / (ns.length:Int)))=M.ret (.int (6553*((k:Int) / (ns.length:Int)))):=dO (.inl ⟨by decide,by decide⟩)
  refine⟨y+6553*((k:Int) / (ns.length:Int)),?_⟩
  simp only[dN,mr,bJ,aH,eu,aS,bT,b_,d2,dV,dC,dA,aC,aN,dr,aR,wM,mH,he,ai,h1,h2,h3,h4,List.map_cons,List.map_nil,List.cons_append,List.nil_append,List.length_cons,List.length_nil,List.getElem?_cons_zero,List.getElem?_cons_succ,dm,Nat.reduceAdd,Nat.zero_le,if_true,Bool.false_eq_true,if_false,cI,gI]
theorem dE(ns:List Int)(hl:ns.length≤63)(k m:Nat)(hm:0<m):∃v:Nat,v<m∧aI [.scr ns, .int (k:Int), .int (m:Int)]=M.ret (.int (v:Int)):=by
 obtain⟨c,hc⟩:=xg ns hl k
 have b1:=Int.emod_nonneg (c % 2147483563*69069+104723*((k:Int)+1)) (b:=2147483563) (by decide)
 have b2:=Int.emod_lt_of_pos (c % 2147483563*69069+104723*((k:Int)+1)) (b:=2147483563) (by decide)
 generalize hx:(c % 2147483563*69069+104723*((k:Int)+1)) % 2147483563=x at b1 b2
 have b3:=Int.emod_nonneg (x*x+x / 3) (b:=2147483399) (by decide)
 have b4:=Int.emod_lt_of_pos (x*x+x / 3) (b:=2147483399) (by decide)
 generalize hy:(x*x+x / 3) % 2147483399=y at b3 b4
 have m1:eT (.int (c % 2147483563)) (.int 69069)=_:=dO (.inr ⟨by decide,by decide⟩)
 have m2:eT (.int 104723) (.int ((k:Int)+1))=_:=dO (.inl ⟨by decide,by decide⟩)
 have m3:eT (.int x) (.int x)=_:=dO (.inl ⟨by omega,by omega⟩)
 have m4:eT (.int y) (.int y)=_:=dO (.inl ⟨by omega,by omega⟩)
 have hM:(0:Int)<(m:Int):=Int.ofNat_lt.mpr hm
 have n1:=Int.emod_nonneg ((y*y+y / 7) % 2147483647 / 11) (b:=(m:Int)) (by omega)
 have n2:=Int.emod_lt_of_pos ((y*y+y / 7) % 2147483647 / 11) hM
 have q1:iz (.int c) (.int 2147483563)=_:=eC (by decide)
 have q2:iz (.int (c % 2147483563*69069+104723*((k:Int)+1))) (.int 2147483563)=_:=eC (by decide)
 have q3:mG (.int x) (.int 3)=_:=iy (by decide) (by decide)
 have q4:iz (.int (x*x+x / 3)) (.int 2147483399)=_:=eC (by decide)
 have q5:mG (.int y) (.int 7)=_:=iy (by decide) (by decide)
 have q6:iz (.int (y*y+y / 7)) (.int 2147483647)=_:=eC (by decide)
 have q7:mG (.int ((y*y+y / 7) % 2147483647)) (.int 11)=_:=iy (by decide) (by decide)
 have q8:iz (.int ((y*y+y / 7) % 2147483647 / 11)) (.int (m:Int))=_:=eC hM
 refine⟨((y*y+y / 7) % 2147483647 / 11 % (m:Int)).toNat,by omega,?_⟩
 rw[Int.toNat_of_nonneg n1]
 rw[hx] at q2
 rw[hy] at q4
 simp only[aI,j9,bJ,aH,cG,aS,ak,d2,dV,dC,dA,aC,aN,ai,hc,List.map_cons,List.map_nil,List.cons_append,List.nil_append,List.length_cons,List.length_nil,List.getElem?_cons_zero,List.getElem?_cons_succ,List.replicate,List.set_cons_zero,List.set_cons_succ,Nat.reduceAdd,Nat.reduceSub,if_true,fL,m1,m2,m3,m4,q1,q2,q3,q4,q5,q6,q7,q8]
theorem yf{α:Type}(a:α):noex (M.ret a)=M.ret a:=rfl
theorem qz{put:D→aY→Option aY}{body:DS}{I:Nat→aY→Prop}:∀(ds:List D) (i:Nat) (ρ:aY),I i ρ→
 (∀j d,ds[j]? =some d→∀ρ,I (i+j) ρ→∃ρ1 ρ2,put d ρ=some ρ1∧body ρ1=M.ret (.nx ρ2)∧I (i+j+1) ρ2)→∃ρ',forL put body ds ρ=M.ret (.nx ρ')∧I (i+ds.length) ρ'
 |[],i,ρ,h,_=>⟨ρ,rfl,h⟩
 |d::ds,i,ρ,h,step=>by
  obtain⟨ρ1,ρ2,e1,e2,h2⟩:=step 0 d rfl ρ h
  obtain⟨ρ',e3,h3⟩:=qz (I:=I) ds (i+1) ρ2 h2 fun j d' hd ρ hI=>by
   have:=step (j+1) d' hd ρ (by rw[show i+(j+1)=i+1+j by omega];exact hI)
   rw[show i+(j+1)+1=i+1+j+1 by omega] at this
   exact this
  refine⟨ρ',?_,?_⟩
  ·show (match put d ρ with | none=>M.stuck | some ρ1=>body ρ1>>=fun o=>match o with | .nx ρ2=>forL put body ds ρ2 | .rt v=>M.ret (.rt v))=_
   rw[e1]
   show (body ρ1>>=fun o=>match o with | .nx ρ2=>forL put body ds ρ2 | .rt v=>M.ret (.rt v))=_
   rw[e2]
   exact e3
  ·rw[show i+(d::ds).length=i+1+ds.length by simp;omega]
   exact h3
theorem nj{f:D→M (Option D)}{Pr:D→Prop}:∀(ds:List D),(∀d∈ds,∃y,f d=M.ret (some y)∧Pr y)→∃ys,cj f ds=M.ret ys∧ys.length=ds.length∧∀y∈ys,Pr y
 |[],_=>⟨[],rfl,rfl,fun _ h=>by cases h⟩
 |d::ds,h=>by
  obtain⟨y,e,hy⟩:=h d (List.mem_cons_self ..)
  obtain⟨ys,e2,hl,hp⟩:=nj ds fun d' hd=>h d' (List.mem_cons_of_mem _ hd)
  refine⟨y::ys,?_,by simp[hl],fun z hz=>?_⟩
  ·rw[cy,e,ai,e2]
   rfl
  ·cases hz with
   |head=>exact hy
   |tail _ hz=>exact hp z hz
theorem eB{f:D→M (Option D)}{g:D→D}:∀(ds:List D),(∀d∈ds,f d=M.ret (some (g d)))→cj f ds=M.ret (ds.map g)
 |[],_=>rfl
 |d::ds,h=>by
  rw[cy,h d (List.mem_cons_self ..),ai,eB ds fun d' hd=>h d' (List.mem_cons_of_mem _ hd)]
  rfl
def uA(x:Str):Bool:=!(Builtin.Str.occurrences ("abcdef":Str) x 0 ("abcdef":Str).length 1).isEmpty
structure Row (W:Nat) (r:Str):Prop where
 len:r.length=W
 let':∀c∈r.cps.toList,uA ⟨#[c]⟩=true
structure Good (bd:List Str) (W:Nat):Prop where
 r1:1≤bd.length
 r5:bd.length≤5
 w1:1≤W
 w5:W≤5
 rows:∀r∈bd,Row W r
theorem rV:∀(ys:List D),(∀y∈ys,∃c,y= .str ⟨#[c]⟩∧uA ⟨#[c]⟩=true)→∃xs,ie ys=some xs∧xs.length=ys.length∧(xs.map (·.length)).sum=ys.length∧Row ys.length (cq xs)
 |[],_=>⟨[],rfl,rfl,rfl,rfl,fun c h=>by cases h⟩
 |y::ys,h=>by
  obtain⟨c,e,hc⟩:=h y (List.mem_cons_self ..)
  obtain⟨xs,e1,e2,e3,e4⟩:=rV ys fun z hz=>h z (List.mem_cons_of_mem _ hz)
  subst e
  refine⟨⟨#[c]⟩::xs,?_,by simp[e2],?_,?_,fun z hz=>?_⟩
  ·show (ie ys).map _=_
   rw[e1]
   rfl
  ·rw[List.map_cons,List.sum_cons,e3]
   show 1+ys.length=_
   simp
   omega
  ·show ((⟨#[c]⟩:Str)++cq xs).length=_
   rw[gp,e4.len]
   show 1+ys.length=_
   simp
   omega
  ·have hz:z∈((⟨#[c]⟩:Str)++cq xs).cps.toList:=hz
   have:((⟨#[c]⟩:Str)++cq xs).cps= #[c]++(cq xs).cps:=rfl
   rw[this] at hz
   have hz:z∈c::(cq xs).cps.toList:=by simpa using hz
   cases hz with
   |head=>exact hc
   |tail _ hz=>exact e4.let' z hz
theorem yZ{lo:Int}{n:Nat}{d:D}(h:d∈eI lo n):∃i:Nat,i<n∧d= .int (lo+(i:Int)):=by
 unfold eI at h
 obtain⟨i,hi,e⟩:=List.mem_map.mp h
 exact⟨i,List.mem_range.mp hi,e.symm⟩
theorem AQ{lo:Int}{n j:Nat}{d:D}(h:(eI lo n)[j]? =some d):j<n∧d= .int (lo+(j:Int)):=by
 unfold eI at h
 rw[List.getElem?_map] at h
 by_cases hj:j<n
 ·rw[List.getElem?_range hj] at h
  cases h
  exact⟨hj,rfl⟩
 ·rw[List.getElem?_eq_none (by simpa using hj)] at h
  cases h
theorem f_(lo:Int)(n:Nat):(eI lo n).length=n:=by simp[eI]
abbrev fz(d:D):Option Sl:=some (.fz d)
theorem eP{δe:DE}{ρ:aY}{d:D}:d4 0 bF δe ρ d=(δe (fz d::ρ)>>=fun y=>M.ret (some y)):=rfl
theorem xk{δt:DT}{δe:DE}{ρ:aY}{d:D}:d4 0 δt δe ρ d=(δt (fz d::ρ)>>=fun b=>if b then δe (fz d::ρ)>>=fun y=>M.ret (some y) else M.ret none):=rfl
theorem ar{a b:DS}{ρ ρ':aY}{o:M Out}(h:a ρ=M.ret (.nx ρ'))(h2:b ρ'=o):aH a b ρ=o:=by
 unfold aH
 rw[h]
 exact h2
theorem cO{a b:DS}{ρ:aY}{d:D}(h:a ρ=M.ret (.rt d)):aH a b ρ=M.ret (.rt d):=by
 unfold aH
 rw[h]
 rfl
theorem a9{i:Nat}{δ:DE}{ρ:aY}{d:D}(h:δ ρ=M.ret d):cG i δ ρ=M.ret (.nx (ρ.set i (fz d))):=by
 unfold cG
 rw[h]
 rfl
theorem fq{c:DT}{a b:DS}{ρ:aY}{o:M Out}(h:c ρ=M.ret true)(h2:a ρ=o):eu c a b ρ=o:=by
 unfold eu
 rw[h]
 exact h2
theorem bM{c:DT}{a b:DS}{ρ:aY}{o:M Out}(h:c ρ=M.ret false)(h2:b ρ=o):eu c a b ρ=o:=by
 unfold eu
 rw[h]
 exact h2
theorem aB{δ:DE}{ρ:aY}{d:D}(h:δ ρ=M.ret d):aS δ ρ=M.ret (.rt d):=by
 unfold aS
 rw[h]
 rfl
theorem br{δ:DE}{ρ:aY}{d:D}(h:δ ρ=M.ret d):fb δ ρ=M.ret (.nx ρ):=by
 unfold fb
 rw[h]
 rfl
theorem aP{n:Nat}{τ:DS}{ds:List D}{d:D}(h:τ (ds.map (fun d=>some (Sl.fz d))++List.replicate (n - ds.length) none)=M.ret (.rt d)):bJ n τ ds=M.ret d:=by
 unfold bJ
 rw[h]
 rfl
theorem kI{n:Nat}{τ:DS}{ds:List D}{ρ:aY}(h:τ (ds.map (fun d=>some (Sl.fz d))++List.replicate (n - ds.length) none)=M.ret (.nx ρ)):bJ n τ ds=M.ret .non:=by
 unfold bJ
 rw[h]
 rfl
theorem y4{put:D→aY→Option aY}{δi:DA}{b:DS}{ρ:aY}{ds:List D}{o:Out}(h:δi ρ=M.ret ds)(h2:forL put b ds ρ=M.ret o):noex (hX put δi b ρ)=M.ret o:=by
 unfold hX
 rw[h,ai,h2]
 rfl
theorem dD{is:List Nat}{τ:DS}{ρ ρ':aY}(h:τ ρ=M.ret (.nx ρ')):fc is τ ρ=M.ret (.nx (fgt is ρ')):=by
 unfold fc
 rw[h]
 rfl
theorem bh{n:Nat}{δi:DA}{δt:DT}{δe:DE}{ρ:aY}{ds ys:List D}(h:δi ρ=M.ret ds)(h2:cj (d4 n δt δe ρ) ds=M.ret ys)(h3:ys.length≤lim):aT n δi δt δe ρ=M.ret (.lst ys):=by
 unfold aT
 rw[h,ai,h2,yf,ai,x_ h3]
theorem jx{n:Nat}(h:n≤4096):gb [.int (n:Int)]=M.ret (eI 0 n):=by
 show (if -4096≤(n:Int)∧(n:Int)≤4096 then M.ret (eI 0 (n:Int).toNat) else M.stuck)=_
 rw[if_pos ⟨by omega,by omega⟩]
 rfl
structure Alpha (al:Str):Prop where
 pos:0<al.length
 ok:∀c∈al.cps.toList,uA ⟨#[c]⟩=true
theorem BN:Alpha "ab"∧Alpha "abc"∧Alpha "aab"∧Alpha "fa":=by
 refine⟨⟨by decide+kernel,?_⟩,⟨by decide+kernel,?_⟩,⟨by decide+kernel,?_⟩,⟨by decide+kernel,?_⟩⟩<;>decide+kernel
theorem xB{x:Str}{i:Nat}(h:i<x.length):∃c,c∈x.cps.toList∧x.cps.toList[i]? =some c∧kq (.str x) (.int (i:Int))=M.ret (.str ⟨#[c]⟩):=by
 have h:i<x.cps.toList.length:=by rw[Array.length_toList];exact h
 refine⟨x.cps.toList[i],List.getElem_mem h,List.getElem?_eq_getElem h,?_⟩
 show (match L2.atI x.cps.toList (i:Int) with | some c=>M.ret (D.str ⟨#[c]⟩) | none=>M.stuck)=_
 rw[fE (List.getElem?_eq_getElem h)]
abbrev brd(bd:List Str):D:= .tup (bd.map D.str)
abbrev sgn(at' mo:Nat)(ns:List Int)(W:Nat)(al:Str)(bd:List Str)(R:Nat)(x7 x8:Option Sl):aY:=[fz (.scr ns),fz (.int (at':Int)),fz (.int (mo:Int)),fz (.int (R:Int)),fz (.int (W:Int)),fz (.str al),fz (brd bd),x7,x8]
def Jv:DE:=aT 0 (fun ρ=>(aC (dV 4) aN) ρ>>=gb) bF (d2 kq (dV 6) (ak 3 aI (aC (dV 1) (aC (d2 cI (d2 cI (d2 cI (dV 2) (dC (.int 3))) (d2 eT (dC (.int 7)) (dV 8))) (dV 0)) (aC (dA aR (aC (dV 6) aN)) aN)))))
theorem wB(at' mo:Nat)(ns:List Int)(hl:ns.length≤63)(al:Str)(ha:Alpha al)(j W R:Nat)(hW:W≤5)(bd:List Str)(x8:Option Sl):
 ∃ys,Jv (sgn at' mo ns W al bd R (fz (.int (0+(j:Int)))) x8)=M.ret (.lst ys)∧ys.length=W∧∀y∈ys,∃c,y= .str ⟨#[c]⟩∧uA ⟨#[c]⟩=true:=by
 obtain⟨ys,e,IS,hp⟩:=nj (f:=d4 0 bF (d2 kq (dV 6) (ak 3 aI (aC (dV 1) (aC (d2 cI (d2 cI (d2 cI (dV 2) (dC (.int 3))) (d2 eT (dC (.int 7)) (dV 8))) (dV 0)) (aC (dA aR (aC (dV 6) aN)) aN)))))
  (sgn at' mo ns W al bd R (fz (.int (0+(j:Int)))) x8)) (Pr:=fun y=>∃c,y= .str ⟨#[c]⟩∧uA ⟨#[c]⟩=true) (eI 0 W) fun d hd=>by
  obtain⟨i,hi,rfl⟩:=yZ hd
  obtain⟨v,hv,e⟩:=dE ns hl (at'+3+7*j+i) al.length ha.pos
  obtain⟨c,hc,_,e2⟩:=xB hv
  refine⟨.str ⟨#[c]⟩,?_,c,rfl,ha.ok c hc⟩
  rw[eP]
  have k:(at':Int)+3+7*(0+(j:Int))+(0+(i:Int))=((at'+3+7*j+i:Nat):Int):=by omega
  have m1:eT (.int 7) (.int (0+(j:Int)))=M.ret (.int (7*(0+(j:Int)))):=dO (.inl ⟨by decide,by decide⟩)
  simp only[ak,d2,dV,dC,dA,aC,aN,ai,List.length_cons,List.length_nil,List.getElem?_cons_zero,List.getElem?_cons_succ,Nat.reduceAdd,if_true,fL,m1,k,aR,e,e2]
 refine⟨ys,bh (jx (n:=W) (by omega)) e (by rw[IS,f_,dm];omega),by rw[IS,f_],hp⟩
def Jw:DS:=cG 6 (d2 nv (dV 6) (dA df (aC (dM lu joinM (dC (.str "")) (aC (dV 8) aN)) aN)))
theorem zI(at' mo:Nat)(ns:List Int)(W:Nat)(al:Str)(bd:List Str)(R:Nat)(x7:Option Sl)(ys:List D)(hb:bd.length≤5)(hy:ys.length≤5)(s3:∀y∈ys,∃c,y= .str ⟨#[c]⟩∧uA ⟨#[c]⟩=true):
 ∃r,Row ys.length r∧Jw (sgn at' mo ns W al bd R x7 (fz (.lst ys)))=M.ret (.nx (sgn at' mo ns W al (bd++[r]) R x7 (fz (.lst ys)))):=by
 obtain⟨xs,t1,t2,t3,t4⟩:=rV ys s3
 refine⟨cq xs,t4,?_⟩
 have jn:joinM (.str "") [.lst ys]=M.ret (.str (cq xs)):=by
  show (match ie ys with | some (xs:List Str)=>if ("":Str).length=0∧(xs.map (fun x:Str=>x.length)).sum≤lim then M.ret (D.str (cq xs)) else M.stuck | none=>M.stuck)=_
  rw[t1]
  show (if ("":Str).length=0∧(xs.map (fun x:Str=>x.length)).sum≤lim then M.ret (D.str (cq xs)) else M.stuck)=_
  rw[if_pos ⟨rfl,by rw[t3,dm];omega⟩]
 have ct:nv (brd bd) (.tup [.str (cq xs)])=M.ret (brd (bd++[cq xs])):=by
  show (if (bd.map D.str).length+1≤lim then M.ret (D.tup (bd.map D.str++[.str (cq xs)])) else M.stuck)=_
  rw[if_pos (by rw[List.length_map,dm];omega)]
  simp[brd]
 refine(a9 (d:=brd (bd++[cq xs])) ?_).trans rfl
 simp only[d2,dV,dC,dA,aC,aN,dM,lu,ai,List.getElem?_cons_zero,List.getElem?_cons_succ,if_true,jn,df,List.length_cons,List.length_nil,dm,Nat.reduceAdd,Nat.reduceLeDiff,ct]
theorem sk(ns:List Int)(hl:ns.length≤63)(at' mo:Nat)(m0:0<mo)(m5:mo≤5):∃bd W,Good bd W∧bd.length≤mo∧W≤mo∧cC [.scr ns, .int (at':Int), .int (mo:Int)]=M.ret (brd bd):=by
 obtain⟨r,hr,e1⟩:=dE ns hl at' mo m0
 obtain⟨c,hc,e2⟩:=dE ns hl (at'+1) mo m0
 obtain⟨a,ha,e3⟩:=dE ns hl (at'+2) 4 (by decide)
 obtain⟨al,JV,e4⟩:∃al,Alpha al∧xy (.lst [.str "ab", .str "abc", .str "aab", .str "fa"]) (.int (a:Int))=M.ret (.str al):=by
  obtain⟨a1,a2,a3,a4⟩:=BN
  match a,ha with
  |0,_=>exact⟨_,a1,rfl⟩
  |1,_=>exact⟨_,a2,rfl⟩
  |2,_=>exact⟨_,a3,rfl⟩
  |3,_=>exact⟨_,a4,rfl⟩
 have k1:(1:Int)+(r:Int)=((r+1:Nat):Int):=by omega
 have k2:(1:Int)+(c:Int)=((c+1:Nat):Int):=by omega
 have GH:aI [.scr ns, .int (at':Int), .int (mo:Int)]=M.ret (.int (r:Int)):=e1
 have GI:aI [.scr ns, .int ((at':Int)+1), .int (mo:Int)]=M.ret (.int (c:Int)):=e2
 have JC:aI [.scr ns, .int ((at':Int)+2), .int 4]=M.ret (.int (a:Int)):=e3
 obtain⟨ρ',f1,bd,f2,f3,f4⟩:=qz (put:=putN 7) (body:=fc [7,8] (aH (cG 8 Jv) Jw))
  (I:=fun i ρ=>∃bd,ρ=sgn at' mo ns (c+1) al bd (r+1) none none∧bd.length=i∧∀z∈bd,Row (c+1) z)
  (eI 0 (r+1)) 0 (sgn at' mo ns (c+1) al [] (r+1) none none) ⟨[],rfl,rfl,fun _ h=>by cases h⟩ fun j d hd ρ ⟨bd,hρ,hb,hw⟩=>by
   obtain⟨hj,rfl⟩:=AQ hd
   subst hρ
   obtain⟨ys,s1,s2,s3⟩:=wB at' mo ns hl al JV j (c+1) (r+1) (by omega) bd none
   obtain⟨D5,t1,t2⟩:=zI at' mo ns (c+1) al bd (r+1) (fz (.int (0+(j:Int)))) ys (by omega) (by omega) s3
   refine⟨_,_,rfl,dD (ar (a9 s1) t2),bd++[D5],rfl,by simp[hb],fun z hz=>?_⟩
   rcases List.mem_append.mp hz with h | h
   ·exact hw z h
   ·have h:z=D5:=by simpa using h
    subst h
    rw[s2] at t1
    exact t1
 refine⟨bd,c+1,⟨by rw[f3,f_];omega,by rw[f3,f_];omega,by omega,by omega,f4⟩,by rw[f3,f_];omega,by omega,?_⟩
 subst f2
 refine aP ?_
 refine ar (a9 (d:= .int ((r+1:Nat):Int)) ?_) ?_
 ·simp only[ak,d2,dV,dC,aC,aN,ai,List.map_cons,List.map_nil,List.cons_append,List.nil_append,List.length_cons,List.length_nil,List.getElem?_cons_zero,List.getElem?_cons_succ,Nat.reduceAdd,if_true,fL,GH,k1]
 refine ar (a9 (d:= .int ((c+1:Nat):Int)) ?_) ?_
 ·simp only[ak,d2,dV,dC,aC,aN,ai,List.map_cons,List.map_nil,List.cons_append,List.nil_append,List.length_cons,List.length_nil,List.replicate,List.set_cons_zero,List.set_cons_succ,Nat.reduceSub,List.getElem?_cons_zero,List.getElem?_cons_succ,Nat.reduceAdd,if_true,fL,GI,k2]
 refine ar (a9 (d:= .str al) ?_) ?_
 ·simp only[ak,d2,dV,dC,dA,aC,aN,ai,List.map_cons,List.map_nil,List.cons_append,List.nil_append,List.length_cons,List.length_nil,List.replicate,List.set_cons_zero,List.set_cons_succ,Nat.reduceSub,List.getElem?_cons_zero,List.getElem?_cons_succ,Nat.reduceAdd,if_true,fL,JC,dr,dm,Nat.reduceLeDiff,e4]
 refine ar (a9 (d:= .tup []) rfl) ?_
 refine ar (y4 (jx (n:=r+1) (by omega)) f1) ?_
 exact aB rfl
theorem vj(ns:List Int)(hl:ns.length≤63)(at' mo:Nat)(m0:0<mo)(m5:mo≤5):∃bd W,Good bd W∧cC [.scr ns, .int (at':Int), .int (mo:Int)]=M.ret (brd bd):=by
 obtain⟨bd,W,h1,_,_,h2⟩:=sk ns hl at' mo m0 m5
 exact⟨bd,W,h1,h2⟩
def Plain:D→Prop
 | .non | .bl _ | .int _ | .str _ | .tup _ | .lst _=>True
 |_=>False
def isStr:D→Bool
 | .str _=>true
 |_=>false
def isTup:D→Bool
 | .tup _=>true
 |_=>false
theorem d7{d:D}(h:Plain d):fv [d, .raw (.ty "str")]=M.ret (.bl (isStr d)):=by
 cases d<;>first | rfl | exact h.elim
theorem kF{d:D}(h:Plain d):fv [d, .raw (.ty "tuple")]=M.ret (.bl (isTup d)):=by
 cases d<;>first | rfl | exact h.elim
def o3:D→Bool
 | .str x=>(x.length==1)&&uA x
 |_=>false
theorem g7{ρ:aY}{i:Nat}{d:D}(h:ρ[i]? =some (fz d)):dV i ρ=M.ret d:=by
 unfold dV
 rw[h]
theorem eq_int(i j:Int):mH (.int i) (.int j)=M.ret (.bl (i==j)):=rfl
theorem ne_int(i j:Int):fM (.int i) (.int j)=M.ret (.bl (!(i==j))):=rfl
theorem len_str(x:Str):aR [.str x]=M.ret (.int (x.length:Int)):=rfl
theorem in_str(x:Str):mJ false (.str x) (.str "abcdef")=M.ret (.bl (uA x)):=rfl
theorem gT(a b:Nat):((a:Int)==(b:Int))=(a==b):=by
 by_cases h:a=b
 ·subst h;simp
 ·have h2:¬(a:Int)=(b:Int):=by omega
  rw[beq_eq_false_iff_ne.mpr h,beq_eq_false_iff_ne.mpr h2]
theorem Ab{d:D}(h:Plain d){i:Nat}{ρ:aY}(hρ:ρ[i]? =some (fz d)):
 dI (dA fv (aC (dV i) (aC (dC (.raw (.ty "str"))) aN))) (dI (d2 mH (dA aR (aC (dV i) aN)) (dC (.int 1))) (d2 (mJ false) (dV i) (dC (.str "abcdef")))) ρ=M.ret (.bl (o3 d)):=by
 have hv:=g7 hρ
 have e1:=gT
 cases d with
 |str x=>
  have k:((x.length:Int)==1)=(x.length==1):=gT x.length 1
  simp only[dI,dA,aC,aN,dC,d2,hv,ai,d7 h,isStr,wM,if_true,len_str,eq_int,k,in_str,o3]
  cases x.length==1<;>rfl
 |non=>simp only[dI,dA,aC,aN,dC,d2,hv,ai,d7 h,isStr,wM,if_false,Bool.false_eq_true,o3]
 |bl b=>simp only[dI,dA,aC,aN,dC,d2,hv,ai,d7 h,isStr,wM,if_false,Bool.false_eq_true,o3]
 |int b=>simp only[dI,dA,aC,aN,dC,d2,hv,ai,d7 h,isStr,wM,if_false,Bool.false_eq_true,o3]
 |tup b=>simp only[dI,dA,aC,aN,dC,d2,hv,ai,d7 h,isStr,wM,if_false,Bool.false_eq_true,o3]
 |lst b=>simp only[dI,dA,aC,aN,dC,d2,hv,ai,d7 h,isStr,wM,if_false,Bool.false_eq_true,o3]
 |raw _=>exact h.elim
 |exc _=>exact h.elim
 |scr _=>exact h.elim
 |dct _ _=>exact h.elim
 |dci _ _=>exact h.elim
theorem gO{d:D}(h:Plain d):bu [d]=M.ret (.bl (o3 d)):=aP (aB (Ab h rfl))
def gz(x:Str):Bool:=x.cps.toList.all fun c=>uA ⟨#[c]⟩
def ky:D→Bool
 | .str x=>(decide (1≤x.length)&&decide (x.length≤8))&&gz x
 |_=>false
theorem vk(l:List Bool):bools (l.map D.bl)=some l:=by
 induction l with
 |nil=>rfl
 |cons b r ih=>show (bools (r.map D.bl)).map _=_;rw[ih];rfl
theorem all_map(l:List Bool):allM [.lst (l.map D.bl)]=M.ret (.bl (l.all id)):=by
 show (match bools (l.map D.bl) with | some bs=>M.ret (D.bl (bs.all id)) | none=>M.stuck)=_
 rw[vk]
theorem xh{δ:DE}{ρ:aY}{n:Nat}(h:δ ρ=M.ret (.int (n:Int))):
 b_ (sx (fun i j=>decide (i≤j)) (fun i j=>decide (i≤j)) (dC (.int 1)) δ (dC (.int 8))) ρ=M.ret (decide (1≤n)&&decide (n≤8)):=by
 have k1:decide ((1:Int)≤(n:Int))=decide (1≤n):=by by_cases h:1≤n<;>simp[h]<;>omega
 have k2:decide ((n:Int)≤8)=decide (n≤8):=by by_cases h:n≤8<;>simp[h]<;>omega
 simp only[b_,sx,dC,h,ai,k1,k2,gI,wM]
 cases decide (1≤n)<;>rfl
theorem sQ{d:D}(h:Plain d):dJ [d]=M.ret (.bl (ky d)):=by
 refine aP ?_
 have hρ:([d].map (fun d=>some (Sl.fz d))++List.replicate (1 - [d].length) none)=[fz d]:=rfl
 rw[hρ]
 have hv:dV 0 [fz d]=M.ret d:=rfl
 have no:isStr d=false→rZ [fz d]=M.ret (.rt (.bl false)):=fun hs=>by
  refine cO (fq ?_ (aB rfl))
  simp only[jK,b5,bY,dA,aC,aN,dC,hv,ai,d7 h,hs,rS,Bool.not_false,if_true]
 cases d with
 |str x=>
  have hi:bY (dA fv (aC (dV 0) (aC (dC (.raw (.ty "str"))) aN))) [fz (.str x)]=M.ret true:=by
   simp only[bY,dA,aC,aN,dC,hv,ai,d7 h,isStr,rS]
  have hl:dA aR (aC (dV 0) aN) [fz (.str x)]=M.ret (.int (x.length:Int)):=rfl
  have hc:=xh hl
  by_cases hr:(decide (1≤x.length)&&decide (x.length≤8))=true
  ·rw[hr] at hc
   refine ar (bM ?_ (ρ:=[fz (.str x)]) rfl) (aB ?_)
   ·unfold jK b5
    rw[hi,ai,ai,hc]
    rfl
   ·have hb:x.length≤8:=by simp only[Bool.and_eq_true,decide_eq_true_eq] at hr;exact hr.2
    have cm:aT 0 (fun ρ=>(dV 0) ρ>>=AW) bF (ak 1 bu (aC (dV 0) aN)) [fz (.str x)]=M.ret (.lst ((x.cps.toList.map fun c=>uA ⟨#[c]⟩).map D.bl)):=by
     refine bh (ds:=signs x) rfl ?_ ?_
     ·have:=eB (f:=d4 0 bF (ak 1 bu (aC (dV 0) aN)) [fz (.str x)]) (g:=fun d=>D.bl (o3 d)) (signs x) fun d hd=>by
       rw[eP]
       obtain⟨c,_,rfl⟩:=List.mem_map.mp hd
       show (bu [.str ⟨#[c]⟩]>>=fun y=>M.ret (some y))=_
       rw[gO (d:= .str ⟨#[c]⟩) trivial]
       rfl
      rw[this]
      unfold signs
      rw[List.map_map,List.map_map]
      congr 1
     ·rw[List.length_map,List.length_map,Array.length_toList,dm]
      exact Nat.le_trans hb (by decide)
    rw[b0 (aE cm rfl),all_map]
    show M.ret (D.bl ((x.cps.toList.map fun c=>uA ⟨#[c]⟩).all id))=M.ret (D.bl ((decide (1≤x.length)&&decide (x.length≤8))&&gz x))
    rw[hr]
    unfold gz
    rw[List.all_map]
    rfl
  ·have hr:(decide (1≤x.length)&&decide (x.length≤8))=false:=by simpa using hr
   rw[hr] at hc
   have:ky (.str x)=false:=by
    show ((decide (1≤x.length)&&decide (x.length≤8))&&gz x)=false
    rw[hr];rfl
   rw[this]
   refine cO (fq ?_ (aB rfl))
   unfold jK b5
   rw[hi,ai,ai,hc]
   rfl
 |non=>exact no rfl
 |bl b=>exact no rfl
 |int b=>exact no rfl
 |tup b=>exact no rfl
 |lst b=>exact no rfl
 |raw _=>exact h.elim
 |exc _=>exact h.elim
 |scr _=>exact h.elim
 |dct _ _=>exact h.elim
 |dci _ _=>exact h.elim
def g9:D→Nat
 | .str x=>x.length
 |_=>0
def kS:D→Bool
 | .tup ds=>(decide (1≤ds.length)&&decide (ds.length≤8))&&(ds.all ky&&ds.all fun d=>g9 d==g9 (ds.headD .non))
 |_=>false
def Plain2:D→Prop
 | .tup ds=>∀d∈ds,Plain d
 |d=>Plain d
theorem Plain2.plain{d:D}(h:Plain2 d):Plain d:=by
 cases d<;>first | exact h | exact trivial
theorem KH{ρ:aY}{i:Nat}{ds:List D}(h:ρ[i]? =some (fz (.tup ds))):mE (dV i) ρ=M.ret ds:=by
 unfold mE
 rw[g7 h]
 rfl
theorem z_{ds:List D}:aR [.tup ds]=M.ret (.int (ds.length:Int)):=rfl
theorem Hz{ds:List D}{d:D}{r:List D}(h:ds=d::r):a8 (.tup ds) (.int 0)=M.ret d:=by
 subst h
 show (match L2.atI (d::r) ((0:Nat):Int) with | some d=>M.ret d | none=>M.stuck)=_
 rw[fE (x:=d) rfl]
theorem AS{d:D}(h:ky d=true):∃x,d= .str x:=by
 cases d<;>first | exact⟨_,rfl⟩ | cases h
theorem vD{d:D}(h:Plain d):jK (b5 (bY (dA fv (aC (dV 0) (aC (dC (.raw (.ty "tuple"))) aN))))) (b5 (b_ (sx (fun i j=>decide (i≤j)) (fun i j=>decide (i≤j)) (dC (.int 1)) (dA aR (aC (dV 0) aN)) (dC (.int 8))))) [fz d]=
 M.ret (match d with | .tup ds=>!(decide (1≤ds.length)&&decide (ds.length≤8)) | _=>true):=by
 have hv:dV 0 [fz d]=M.ret d:=rfl
 have no:isTup d=false→jK (b5 (bY (dA fv (aC (dV 0) (aC (dC (.raw (.ty "tuple"))) aN))))) (b5 (b_ (sx (fun i j=>decide (i≤j)) (fun i j=>decide (i≤j)) (dC (.int 1)) (dA aR (aC (dV 0) aN)) (dC (.int 8))))) [fz d]=M.ret true:=fun hs=>by
  simp only[jK,b5,bY,dA,aC,aN,dC,hv,ai,kF h,hs,rS,Bool.not_false,if_true]
 cases d with
 |tup ds=>
  have hi:bY (dA fv (aC (dV 0) (aC (dC (.raw (.ty "tuple"))) aN))) [fz (.tup ds)]=M.ret true:=by
   simp only[bY,dA,aC,aN,dC,hv,ai,kF h,isTup,rS]
  have hl:dA aR (aC (dV 0) aN) [fz (.tup ds)]=M.ret (.int (ds.length:Int)):=rfl
  unfold jK b5
  rw[hi,ai,ai,xh hl]
  rfl
 |non=>exact no rfl
 |bl b=>exact no rfl
 |int b=>exact no rfl
 |str b=>exact no rfl
 |lst b=>exact no rfl
 |raw _=>exact h.elim
 |exc _=>exact h.elim
 |scr _=>exact h.elim
 |dct _ _=>exact h.elim
 |dci _ _=>exact h.elim
theorem all_rows{ds:List D}(h:∀d∈ds,Plain d)(hl:ds.length≤8):dA allM (aC (aT 0 (mE (dV 0)) bF (ak 1 dJ (aC (dV 0) aN))) aN) [fz (.tup ds)]=M.ret (.bl (ds.all ky)):=by
 have cm:aT 0 (mE (dV 0)) bF (ak 1 dJ (aC (dV 0) aN)) [fz (.tup ds)]=M.ret (.lst ((ds.map ky).map D.bl)):=by
  refine bh (ds:=ds) rfl ?_ (by rw[List.length_map,List.length_map,dm];omega)
  rw[List.map_map]
  refine eB (g:=D.bl∘ky) ds fun d hd=>?_
  rw[eP]
  show (dJ [d]>>=fun y=>M.ret (some y))=_
  rw[sQ (h d hd)]
  rfl
 rw[b0 (aE cm rfl),all_map,List.all_map]
 rfl
theorem all_lens{ds:List D}(hs:∀d∈ds,∃x,d= .str x)(h0:1≤ds.length)(hl:ds.length≤8):
 dA allM (aC (aT 0 (mE (dV 0)) bF (d2 mH (dA aR (aC (dV 0) aN)) (dA aR (aC (d2 a8 (dV 1) (dC (.int 0))) aN)))) aN) [fz (.tup ds)]=M.ret (.bl (ds.all fun d=>g9 d==g9 (ds.headD .non))):=by
 obtain⟨d0,r,e0⟩:∃d0 r,ds=d0::r:=by
  cases ds with
  |nil=>simp at h0
  |cons a r=>exact⟨a,r,rfl⟩
 have hh:ds.headD .non=d0:=by rw[e0];rfl
 obtain⟨x0,Jd⟩:=hs d0 (by rw[e0];exact List.mem_cons_self ..)
 have cm:aT 0 (mE (dV 0)) bF (d2 mH (dA aR (aC (dV 0) aN)) (dA aR (aC (d2 a8 (dV 1) (dC (.int 0))) aN))) [fz (.tup ds)]=M.ret (.lst ((ds.map fun d=>g9 d==g9 (ds.headD .non)).map D.bl)):=by
  refine bh (ds:=ds) rfl ?_ (by rw[List.length_map,List.length_map,dm];omega)
  rw[List.map_map]
  refine eB (g:=D.bl∘fun d=>g9 d==g9 (ds.headD .non)) ds fun d hd=>?_
  rw[eP]
  obtain⟨x,rfl⟩:=hs d hd
  have k:((x.length:Int)==(x0.length:Int))=(x.length==x0.length):=gT _ _
  have i0:a8 (.tup ds) (.int 0)=M.ret (.str x0):=by rw[Hz e0,Jd]
  have Kc:ds.headD .non= .str x0:=by rw[hh,Jd]
  simp only[d2,dA,aC,aN,dC,dV,ai,List.getElem?_cons_zero,List.getElem?_cons_succ,len_str,i0,eq_int,k,Function.comp,g9,Kc]
 rw[b0 (aE cm rfl),all_map,List.all_map]
 rfl
theorem oX{d:D}(h:Plain2 d):eR [d]=M.ret (.bl (kS d)):=by
 refine aP ?_
 have hρ:([d].map (fun d=>some (Sl.fz d))++List.replicate (1 - [d].length) none)=[fz d]:=rfl
 rw[hρ]
 have hf:=vD h.plain
 have no:(∀ds,d≠ .tup ds)→mq [fz d]=M.ret (.rt (.bl (kS d))):=fun hn=>by
  cases d<;>first | exact absurd rfl (hn _) | exact cO (fq hf (aB rfl))
 cases d with
 |tup ds=>
  have hf:_=M.ret (!(decide (1≤ds.length)&&decide (ds.length≤8))):=hf
  by_cases hr:(decide (1≤ds.length)&&decide (ds.length≤8))=true
  ·rw[hr] at hf
   have hb:=hr
   simp only[Bool.and_eq_true,decide_eq_true_eq] at hb
   have e:kS (.tup ds)=(ds.all ky&&ds.all fun d=>g9 d==g9 (ds.headD .non)):=by
    show ((decide (1≤ds.length)&&decide (ds.length≤8))&&_)=_
    rw[hr,Bool.true_and]
   rw[e]
   have a1:=all_rows h hb.2
   refine ar (bM hf rfl) ?_
   cases hc:ds.all ky with
   |false=>
    rw[hc] at a1
    refine cO (fq ?_ (aB rfl))
    unfold b5 bY
    rw[a1]
    rfl
   |true=>
    rw[hc] at a1
    refine ar (bM ?_ rfl) (aB ?_)
    ·unfold b5 bY
     rw[a1]
     rfl
    ·rw[Bool.true_and]
     exact all_lens (fun d hd=>AS (List.all_eq_true.mp hc d hd)) hb.1 hb.2
  ·have hr:(decide (1≤ds.length)&&decide (ds.length≤8))=false:=by simpa using hr
   rw[hr] at hf
   have e:kS (.tup ds)=false:=by
    show ((decide (1≤ds.length)&&decide (ds.length≤8))&&_)=_
    rw[hr];rfl
   rw[e]
   exact cO (fq hf (aB rfl))
 |non=>exact no fun _ z=>by cases z
 |bl b=>exact no fun _ z=>by cases z
 |int b=>exact no fun _ z=>by cases z
 |str b=>exact no fun _ z=>by cases z
 |lst b=>exact no fun _ z=>by cases z
 |raw _=>exact h.elim
 |exc _=>exact h.elim
 |scr _=>exact h.elim
 |dct _ _=>exact h.elim
 |dci _ _=>exact h.elim
structure Brd (ob:List Str) (V:Nat):Prop where
 r1:1≤ob.length
 r8:ob.length≤8
 w1:1≤V
 w8:V≤8
 rows:∀r∈ob,Row V r
theorem Good.brd{bd:List Str}{W:Nat}(hg:Good bd W):Brd bd W:=⟨hg.r1,by have:=hg.r5;omega,hg.w1,by have:=hg.w5;omega,hg.rows⟩
theorem Brd.board{ob:List Str}{V:Nat}(h:Brd ob V):kS (brd ob)=true:=by
 have Hj:∀r∈ob,ky (.str r)=true:=fun r hr=>by
  have q:=h.rows r hr
  show ((decide (1≤r.length)&&decide (r.length≤8))&&gz r)=true
  rw[q.len]
  have a:decide (1≤V)=true:=decide_eq_true h.w1
  have b:decide (V≤8)=true:=decide_eq_true h.w8
  rw[a,b]
  show gz r=true
  exact List.all_eq_true.mpr fun c hc=>q.let' c hc
 have h0:g9 ((ob.map D.str).headD .non)=V:=by
  have:=h.r1
  have hr:=h.rows
  cases ob with
  |nil=>simp at this
  |cons x l=>exact(hr x (List.mem_cons_self ..)).len
 show ((decide (1≤(ob.map D.str).length)&&decide ((ob.map D.str).length≤8))&&((ob.map D.str).all ky&&(ob.map D.str).all fun d=>g9 d==g9 ((ob.map D.str).headD .non)))=true
 rw[h0,List.length_map,decide_eq_true h.r1,decide_eq_true h.r8]
 have a:(ob.map D.str).all ky=true:=List.all_eq_true.mpr fun d hd=>by
  obtain⟨r,hr,rfl⟩:=List.mem_map.mp hd
  exact Hj r hr
 have b:((ob.map D.str).all fun d=>g9 d==V)=true:=List.all_eq_true.mpr fun d hd=>by
  obtain⟨r,hr,rfl⟩:=List.mem_map.mp hd
  show (r.length==V)=true
  rw[(h.rows r hr).len]
  simp
 rw[a,b]
 rfl
theorem vm{bd:List Str}:Plain2 (brd bd):=fun d hd=>by
 obtain⟨r,_,rfl⟩:=List.mem_map.mp hd
 trivial
theorem oH{δ:DE}{ρ:aY}{b:Bool}(h:δ ρ=M.ret (.bl b)):bY δ ρ=M.ret b:=by
 unfold bY
 rw[h]
 rfl
theorem dn{δ:DE}{ρ:aY}{b:Bool}(h:δ ρ=M.ret (.bl b)):b_ δ ρ=M.ret b:=by
 unfold b_
 rw[h]
 rfl
theorem sE{τ:DT}{ρ:aY}{b:Bool}(h:τ ρ=M.ret b):b5 τ ρ=M.ret (!b):=by
 unfold b5
 rw[h]
 rfl
theorem xl{a c:DT}{ρ:aY}{p q:Bool}(h1:a ρ=M.ret p)(h2:c ρ=M.ret q):jK a c ρ=M.ret (p||q):=by
 unfold jK
 rw[h1,ai]
 cases p
 ·exact h2
 ·rfl
theorem BW{a c:DT}{ρ:aY}{p q:Bool}(h1:a ρ=M.ret p)(h2:c ρ=M.ret q):vA a c ρ=M.ret (p&&q):=by
 unfold vA
 rw[h1,ai]
 cases p
 ·rfl
 ·exact h2
theorem BV{a c:DT}{ρ:aY}(h1:a ρ=M.ret false):vA a c ρ=M.ret false:=by
 unfold vA
 rw[h1]
 rfl
theorem En{c:DT}{a b:DE}{ρ:aY}{p:Bool}(h:c ρ=M.ret p):Bd c a b ρ=if p then a ρ else b ρ:=by
 unfold Bd
 rw[h]
 rfl
theorem Brd.nb{ob:List Str}{V:Nat}(h:Brd ob V):az [brd ob]=M.ret .non:=by
 refine kI (ρ:=[fz (brd ob)]) (bM (sE (oH (b:=true) ?_)) rfl)
 refine(ag (ds:=[brd ob]) rfl rfl).trans ?_
 rw[oX vm,h.board]
theorem Brd.len0{ob:List Str}{V:Nat}(h:Brd ob V){i:Nat}{ρ:aY}(hρ:ρ[i]? =some (fz (brd ob))):dA aR (aC (d2 a8 (dV i) (dC (.int 0))) aN) ρ=M.ret (.int (V:Int)):=by
 have h1:=h.r1
 have hr:=h.rows
 obtain⟨x,l,e⟩:∃x l,ob=x::l:=by
  cases ob with
  |nil=>simp at h1
  |cons x l=>exact⟨x,l,rfl⟩
 have hx:x.length=V:=(hr x (by rw[e];exact List.mem_cons_self ..)).len
 have i0:a8 (brd ob) (.int 0)=M.ret (.str x):=Hz (show ob.map D.str=D.str x::l.map D.str by rw[e];rfl)
 have k:=aQ (g:=a8) (g7 hρ) (show dC (.int 0) ρ=M.ret (.int 0) from rfl)
 rw[i0] at k
 rw[b0 (aE (xs:=[]) k rfl)]
 show M.ret (D.int (x.length:Int))=_
 rw[hx]
theorem qK{bd:List Str}{i:Nat}{ρ:aY}(hρ:ρ[i]? =some (fz (brd bd))):dA aR (aC (dV i) aN) ρ=M.ret (.int (bd.length:Int)):=by
 have:aR [brd bd]=M.ret (.int (bd.length:Int)):=by
  show M.ret (D.int ((bd.map D.str).length:Int))=_
  rw[List.length_map]
 simp only[dA,aC,aN,g7 hρ,ai,this]
def fm:D→Bool
 | .int _=>true
 |_=>false
theorem oo{d:D}(h:Plain d):a6 [d]=M.ret (.bl (fm d)):=by
 cases d<;>first | rfl | exact h.elim
def Ek(R W:Nat):D→D→Bool
 | .int a, .int b=>(decide (0≤a)&&decide (a<(R:Int)))&&(decide (0≤b)&&decide (b<(W:Int)))
 |_,_=>false
def Bc(R W:Nat):D→Bool
 | .tup [u,v]=>Ek R W u v
 |_=>false
theorem Em{δ ε:DE}{ρ:aY}{i n:Int}(h:δ ρ=M.ret (.int i))(h2:ε ρ=M.ret (.int n)):
 sx (fun i j=>decide (i≤j)) (fun i j=>decide (i<j)) (dC (.int 0)) δ ε ρ=M.ret (.bl (decide (0≤i)&&decide (i<n))):=by
 simp only[sx,dC,h,h2,ai,gI]
 cases decide (0≤i)<;>rfl
theorem qG{bd:List Str}{W:Nat}(hg:Brd bd W){d:D}(h:Plain2 d):gw [brd bd,d]=M.ret (.bl (Bc bd.length W d)):=by
 refine aP ?_
 have hρ:([brd bd,d].map (fun d=>some (Sl.fz d))++List.replicate (2 - [brd bd,d].length) none)=[fz (brd bd),fz d]:=rfl
 rw[hρ]
 have hv:dV 1 [fz (brd bd),fz d]=M.ret d:=rfl
 have no:isTup d=false→oq [fz (brd bd),fz d]=M.ret (.rt (.bl false)):=fun hs=>by
  refine cO (fq ?_ (aB rfl))
  simp only[jK,b5,bY,dA,aC,aN,dC,hv,ai,kF h.plain,hs,rS,Bool.not_false,if_true]
 cases d with
 |tup ds=>
  have hi:b5 (bY (dA fv (aC (dV 1) (aC (dC (.raw (.ty "tuple"))) aN)))) [fz (brd bd),fz (.tup ds)]=M.ret false:=by
   simp only[b5,bY,dA,aC,aN,dC,hv,ai,kF h.plain,isTup,rS,Bool.not_true]
  have k:((ds.length:Int)==2)=(ds.length==2):=gT ds.length 2
  have hl:jK (b5 (bY (dA fv (aC (dV 1) (aC (dC (.raw (.ty "tuple"))) aN))))) (b_ (d2 fM (dA aR (aC (dV 1) aN)) (dC (.int 2)))) [fz (brd bd),fz (.tup ds)]=M.ret (!(ds.length==2)):=by
   unfold jK
   rw[hi]
   simp only[b_,d2,dA,aC,aN,dC,hv,ai,z_,ne_int,k,wM,Bool.false_eq_true,if_false]
  match ds,h,hl with
  |[],h,hl=>exact cO (fq hl (aB rfl))
  |[_],h,hl=>exact cO (fq hl (aB rfl))
  |_::_::_::_,h,hl=>
   refine cO (fq (hl.trans ?_) (aB rfl))
   simp
  |[u,v],h,hl=>
   refine ar (bM hl rfl) ?_
   have pu:Plain u:=h u (by simp)
   have pv:Plain v:=h v (by simp)
   have w1:ak 1 a6 (aC (d2 a8 (dV 1) (dC (.int 0))) aN) [fz (brd bd),fz (.tup [u,v])]=M.ret (.bl (fm u)):=oo pu
   have w2:ak 1 a6 (aC (d2 a8 (dV 1) (dC (.int 1))) aN) [fz (brd bd),fz (.tup [u,v])]=M.ret (.bl (fm v)):=oo pv
   have hw:jK (b5 (bY (ak 1 a6 (aC (d2 a8 (dV 1) (dC (.int 0))) aN)))) (b5 (bY (ak 1 a6 (aC (d2 a8 (dV 1) (dC (.int 1))) aN)))) [fz (brd bd),fz (.tup [u,v])]=M.ret (!(fm u&&fm v)):=by
    unfold jK b5 bY
    rw[w1,w2]
    simp only[ai,rS]
    cases fm u<;>cases fm v<;>rfl
   have bad:(fm u&&fm v)=false→aH (eu (jK (b5 (bY (ak 1 a6 (aC (d2 a8 (dV 1) (dC (.int 0))) aN)))) (b5 (bY (ak 1 a6 (aC (d2 a8 (dV 1) (dC (.int 1))) aN))))) (aS (dC (.bl false))) bT) (aS (dI (sx (fun i j=>decide (i≤j)) (fun i j=>decide (i<j)) (dC (.int 0)) (d2 a8 (dV 1) (dC (.int 0))) (dA aR (aC (dV 0) aN))) (sx (fun i j=>decide (i≤j)) (fun i j=>decide (i<j)) (dC (.int 0)) (d2 a8 (dV 1) (dC (.int 1))) (dA aR (aC (d2 a8 (dV 0) (dC (.int 0))) aN))))) [fz (brd bd),fz (.tup [u,v])]=M.ret (.rt (.bl false)):=fun hz=>by
    rw[hz] at hw
    exact cO (fq hw (aB rfl))
   match u,v,hw,bad with
   | .int a, .int b,hw,bad=>
     refine ar (bM hw rfl) (aB ?_)
     obtain⟨x0,r,e0⟩:∃x0 r,bd=x0::r:=by
      have:=hg.r1
      cases bd with
      |nil=>simp at this
      |cons x r=>exact⟨x,r,rfl⟩
     have hx:x0.length=W:=(hg.rows x0 (by rw[e0];simp)).len
     have l0:dA aR (aC (dV 0) aN) [fz (brd bd),fz (.tup [.int a, .int b])]=M.ret (.int (bd.length:Int)):=by
      show M.ret (D.int ((bd.map D.str).length:Int))=_
      rw[List.length_map]
     have l1:dA aR (aC (d2 a8 (dV 0) (dC (.int 0))) aN) [fz (brd bd),fz (.tup [.int a, .int b])]=M.ret (.int (W:Int)):=by
      have i0:a8 (brd bd) (.int 0)=M.ret (.str x0):=Hz (r:=r.map D.str) (by rw[e0];rfl)
      simp only[dA,aC,aN,d2,dC,dV,List.getElem?_cons_zero,ai,i0,len_str,hx]
     have c1:=Em (δ:=d2 a8 (dV 1) (dC (.int 0))) (i:=a) rfl l0
     have c2:=Em (δ:=d2 a8 (dV 1) (dC (.int 1))) (i:=b) rfl l1
     unfold dI
     rw[c1,ai]
     show (if (decide (0≤a)&&decide (a<(bd.length:Int)))=true then _ else _)=M.ret (D.bl ((decide (0≤a)&&decide (a<(bd.length:Int)))&&(decide (0≤b)&&decide (b<(W:Int)))))
     cases (decide (0≤a)&&decide (a<(bd.length:Int)))
     ·rfl
     ·rw[if_pos rfl,c2,Bool.true_and]
   | .non,_,_,bad=>exact bad rfl
   | .bl _,_,_,bad=>exact bad rfl
   | .str _,_,_,bad=>exact bad rfl
   | .tup _,_,_,bad=>exact bad rfl
   | .lst _,_,_,bad=>exact bad rfl
   | .raw _,_,_,_=>exact pu.elim
   | .exc _,_,_,_=>exact pu.elim
   | .scr _,_,_,_=>exact pu.elim
   | .int a, .non,_,bad=>exact bad rfl
   | .int a, .bl _,_,bad=>exact bad rfl
   | .int a, .str _,_,bad=>exact bad rfl
   | .int a, .tup _,_,bad=>exact bad rfl
   | .int a, .lst _,_,bad=>exact bad rfl
   | .int a, .raw _,_,_=>exact pv.elim
   | .int a, .exc _,_,_=>exact pv.elim
   | .int a, .scr _,_,_=>exact pv.elim
 |non=>exact no rfl
 |bl b=>exact no rfl
 |int b=>exact no rfl
 |str b=>exact no rfl
 |lst b=>exact no rfl
 |raw _=>exact h.elim
 |exc _=>exact h.elim
 |scr _=>exact h.elim
 |dct _ _=>exact h.elim
 |dci _ _=>exact h.elim
abbrev Cell:=Nat×Nat
def cD(c:Cell):D:= .tup [.int (c.1:Int), .int (c.2:Int)]
def On(R W:Nat)(c:Cell):Prop:=c.1<R∧c.2<W
instance {R W:Nat}{c:Cell}:Decidable (On R W c):=by unfold On;infer_instance
theorem w_{c:Cell}:Plain2 (cD c):=fun d hd=>by
 have:d= .int (c.1:Int)∨d= .int (c.2:Int):=by simpa[cD] using hd
 rcases this with rfl | rfl<;>trivial
theorem zJ{R W:Nat}{c:Cell}(h:On R W c):Bc R W (cD c)=true:=by
 show ((decide ((0:Int)≤(c.1:Int))&&decide ((c.1:Int)<(R:Int)))&&(decide ((0:Int)≤(c.2:Int))&&decide ((c.2:Int)<(W:Int))))=true
 obtain⟨h1,h2⟩:=h
 simp
 omega
theorem Brd.nc{bd:List Str}{W:Nat}(hg:Brd bd W){c:Cell}(h:On bd.length W c):bL [brd bd,cD c]=M.ret .non:=by
 refine kI (ρ:=[fz (brd bd),fz (cD c)]) (bM (sE (oH (b:=true) ?_)) rfl)
 refine(ag (ds:=[brd bd,cD c]) rfl rfl).trans ?_
 rw[qG hg w_,zJ h]
def Ways(w:Nat):Prop:=w=4∨w=8
theorem Ways.nw{w:Nat}(h:Ways w):d6 [.int (w:Int)]=M.ret .non:=by
 rcases h with rfl | rfl<;>rfl
def ch(x:Str)(j:Nat):Nat:=x.cps.toList.getD j 0
def at2(bd:List Str)(i j:Nat):Nat:=ch (bd.getD i ⟨#[]⟩) j
abbrev lt(bd:List Str)(c:Cell):Nat:=at2 bd c.1 c.2
def sg(n:Nat):D:= .str ⟨#[n]⟩
theorem u7{x:Str}{c:Nat}(h:c<x.length):kq (.str x) (.int (c:Int))=M.ret (sg (ch x c)):=by
 have h':c<x.cps.toList.length:=by rw[Array.length_toList];exact h
 show (match L2.atI x.cps.toList (c:Int) with | some c=>M.ret (D.str ⟨#[c]⟩) | none=>M.stuck)=_
 rw[fE (List.getElem?_eq_getElem h')]
 unfold sg ch
 rw[List.getD_eq_getElem?_getD,List.getElem?_eq_getElem h']
 rfl
theorem getD_mem{bd:List Str}{i:Nat}(h:i<bd.length):bd.getD i ⟨#[]⟩∈bd:=by
 rw[List.getD_eq_getElem?_getD,List.getElem?_eq_getElem h]
 exact List.getElem_mem h
theorem CA{bd:List Str}{i:Nat}(h:i<bd.length):a8 (brd bd) (.int (i:Int))=M.ret (.str (bd.getD i ⟨#[]⟩)):=by
 show (match L2.atI (bd.map D.str) (i:Int) with | some d=>M.ret d | none=>M.stuck)=_
 rw[fE (x:= .str (bd.getD i ⟨#[]⟩)) ?_]
 rw[List.getElem?_map,List.getElem?_eq_getElem h,List.getD_eq_getElem?_getD,List.getElem?_eq_getElem h]
 rfl
theorem gP{bd:List Str}{W:Nat}(hg:Brd bd W){c:Cell}(h:On bd.length W c):bc [brd bd,cD c]=M.ret (sg (lt bd c)):=by
 refine aP (aB ?_)
 refine(aQ (x:= .str (bd.getD c.1 ⟨#[]⟩)) (y:= .int (c.2:Int)) ((aQ (x:=brd bd) (y:= .int (c.1:Int)) rfl rfl).trans (CA h.1)) rfl).trans ?_
 exact u7 (by rw[(hg.rows _ (getD_mem h.1)).len];exact h.2)
def eK(a b:Nat):Nat:=max a b - min a b
def i6(w:Nat)(a b:Cell):Bool:=if w=4 then decide (eK a.1 b.1+eK a.2 b.2=1) else decide (max (eK a.1 b.1) (eK a.2 b.2)=1)
theorem ub(a b:Nat):wU [.int ((a:Int) - (b:Int))]=M.ret (.int (eK a b:Int)):=by
 show M.ret (D.int _)=_
 congr 2
 unfold eK
 omega
theorem oy{w:Nat}(hw:Ways w)(a b:Cell):cz [cD a,cD b, .int (w:Int)]=M.ret (.bl (i6 w a b)):=by
 refine aP ?_
 refine ar (ρ':=[fz (cD a),fz (cD b),fz (.int (w:Int)),fz (.int (eK a.1 b.1:Int)),none]) ((a9 (d:= .int (eK a.1 b.1:Int)) (ub a.1 b.1)).trans rfl) ?_
 refine ar (ρ':=[fz (cD a),fz (cD b),fz (.int (w:Int)),fz (.int (eK a.1 b.1:Int)),fz (.int (eK a.2 b.2:Int))]) ((a9 (d:= .int (eK a.2 b.2:Int)) (ub a.2 b.2)).trans rfl) ?_
 rcases hw with rfl | rfl
 ·refine cO (fq (dn rfl) (aB ?_))
  show M.ret (D.bl (((eK a.1 b.1:Int)+(eK a.2 b.2:Int))==1))=_
  unfold i6
  rw[if_pos rfl]
  congr 2
  have:((eK a.1 b.1:Int)+(eK a.2 b.2:Int))=((eK a.1 b.1+eK a.2 b.2:Nat):Int):=by omega
  rw[this]
  have e:=gT (eK a.1 b.1+eK a.2 b.2) 1
  exact e.trans rfl
 ·refine ar (bM (dn rfl) rfl) (aB ?_)
  show M.ret (D.bl ((if (eK a.1 b.1:Int)<(eK a.2 b.2:Int) then(eK a.2 b.2:Int) else(eK a.1 b.1:Int))==1))=_
  have hn:i6 8 a b=decide (max (eK a.1 b.1) (eK a.2 b.2)=1):=rfl
  rw[hn]
  congr 2
  have:(if (eK a.1 b.1:Int)<(eK a.2 b.2:Int) then(eK a.2 b.2:Int) else(eK a.1 b.1:Int))=((max (eK a.1 b.1) (eK a.2 b.2):Nat):Int):=by split<;>omega
  rw[this]
  have e:=gT (max (eK a.1 b.1) (eK a.2 b.2)) 1
  exact e.trans rfl
theorem yi(w:Nat)(a b:Cell):i6 w a b=i6 w b a:=by
 have e:∀x y:Nat,eK x y=eK y x:=fun x y=>by unfold eK;omega
 unfold i6
 rw[e a.1,e a.2]
theorem Fj{a b:Cell}(h:i6 4 a b=true):i6 8 a b=true:=by
 unfold i6 at h⊢
 rw[if_pos rfl] at h
 rw[if_neg (by decide)]
 have h:=of_decide_eq_true h
 exact decide_eq_true (by omega)
theorem CQ{w:Nat}(hw:Ways w){a:Cell}:i6 w a a=false:=by
 unfold i6 eK
 rcases hw with rfl | rfl<;>simp
theorem ja{put:D→aY→Option aY}{body:DS}{d:D}{ds:List D}{ρ ρ1 ρ2:aY}(h1:put d ρ=some ρ1)(h2:body ρ1=M.ret (.nx ρ2)):forL put body (d::ds) ρ=forL put body ds ρ2:=by
 show (match put d ρ with | none=>M.stuck | some ρ1=>body ρ1>>=fun o=>match o with | .nx ρ2=>forL put body ds ρ2 | .rt v=>M.ret (.rt v))=_
 rw[h1]
 show (body ρ1>>=fun o=>match o with | .nx ρ2=>forL put body ds ρ2 | .rt v=>M.ret (.rt v))=_
 rw[h2]
 rfl
section
variable{α σ:Type}{put:D→aY→Option aY}{body:DS}
theorem jb(enc:α→D)(ρ:aY):∀(xs:List α),(∀x∈xs,∃ρ1,put (enc x) ρ=some ρ1∧body ρ1=M.ret (.nx ρ))→forL put body (xs.map enc) ρ=M.ret (.nx ρ)
 |[],_=>rfl
 |x::xs,st=>by
  obtain⟨ρ1,e1,e2⟩:=st x (List.mem_cons_self ..)
  exact(ja e1 e2).trans (jb enc ρ xs fun y hy=>st y (List.mem_cons_of_mem _ hy))
theorem fK(enc:α→D)(mk:List D→aY)(g:α→List D){B:Nat}:∀(xs:List α) (acc:List D),(acc++xs.flatMap g).length≤B→(∀x∈xs,∀acc,(acc++g x).length≤B→∃ρ1,put (enc x) (mk acc)=some ρ1∧body ρ1=M.ret (.nx (mk (acc++g x))))→
 forL put body (xs.map enc) (mk acc)=M.ret (.nx (mk (acc++xs.flatMap g)))
 |[],acc,_,_=>by simp;rfl
 |x::xs,acc,hB,st=>by
  have IA:((acc++g x)++xs.flatMap g).length≤B:=by simpa[List.flatMap_cons,List.append_assoc] using hB
  obtain⟨ρ1,e1,e2⟩:=st x (List.mem_cons_self ..) acc (Nat.le_trans (by simp only[List.length_append];omega) IA)
  have e3:=fK enc mk g xs (acc++g x) IA fun y hy=>st y (List.mem_cons_of_mem _ hy)
  rw[List.map_cons,ja e1 e2,e3,List.flatMap_cons,List.append_assoc]
end
theorem l6{put:D→aY→Option aY}{δi:DA}{b:DS}{ρ:aY}{ds:List D}{m:M Out}(h:δi ρ=M.ret ds)(h2:forL put b ds ρ=m):hX put δi b ρ=m:=by
 unfold hX
 rw[h]
 exact h2
theorem gB{τ:DS}{ρ:aY}{o:Out}(h:τ ρ=M.ret o):(fun ρ=>noex (τ ρ)) ρ=M.ret o:=by
 show noex (τ ρ)=_
 rw[h]
 rfl
theorem rE(lo n:Nat):eI (lo:Int) n=(List.range' lo n).map fun(k:Nat)=>D.int (k:Int):=by
 unfold eI
 rw[List.range_eq_range']
 have:∀(n a:Nat),(List.range' a n).map (fun (i:Nat)=>D.int ((lo:Int)+(i:Int)))=(List.range' (lo+a) n).map fun(k:Nat)=>D.int (k:Int):=by
  intro n
  induction n with
  |zero=>intro a;rfl
  |succ n ih=>
   intro a
   rw[List.range'_succ,List.range'_succ,List.map_cons,List.map_cons,ih (a+1)]
   rfl
 exact this n 0
theorem AO{δ:DE}{ρ:aY}{n:Nat}(h:δ ρ=M.ret (.int (n:Int)))(hn:n≤4096):(aC δ aN ρ>>=gb)=M.ret ((List.range n).map fun(k:Nat)=>D.int (k:Int)):=by
 rw[aE h rfl,ai,jx hn,show eI 0 n=eI ((0:Nat):Int) n from rfl,rE,List.range_eq_range']
theorem Dz{δ ε:DE}{ρ:aY}{i j:Nat}(h:δ ρ=M.ret (.int (i:Int)))(h2:ε ρ=M.ret (.int (j:Int)))(hi:i≤4096)(hj:j≤4096):(aC δ (aC ε aN) ρ>>=l5)=M.ret ((List.range' i (j - i)).map fun(k:Nat)=>D.int (k:Int)):=by
 rw[aE h (aE h2 rfl),ai]
 show (if (-4096≤(i:Int)∧(i:Int)≤4096)∧(-4096≤(j:Int)∧(j:Int)≤4096) then M.ret (eI (i:Int) ((j:Int) - (i:Int)).toNat) else M.stuck)=_
 rw[if_pos ⟨⟨by omega,by omega⟩,by omega,by omega⟩,show ((j:Int) - (i:Int)).toNat=j - i by omega,rE]
def bW(W r:Nat):List Cell:=(List.range W).map fun k=>(r,k)
def aJ(R W:Nat):List Cell:=(List.range R).flatMap (bW W)
theorem dR{R W:Nat}{c:Cell}:c∈aJ R W↔On R W c:=by
 unfold aJ bW On
 simp only[List.mem_flatMap,List.mem_range,List.mem_map]
 constructor
 ·rintro⟨r,hr,k,hk,rfl⟩;exact⟨hr,hk⟩
 ·rintro⟨h1,h2⟩;exact⟨c.1,h1,c.2,h2,rfl⟩
theorem eU(R W:Nat):(aJ R W).length=R*W:=by
 unfold aJ
 have:∀l:List Nat,(l.flatMap (bW W)).length=l.length*W:=by
  intro l
  induction l with
  |nil=>simp
  |cons a l ih=>rw[List.flatMap_cons,List.length_append,ih,List.length_cons,Nat.succ_mul];simp[bW];omega
 rw[this,List.length_range]
theorem eA{bd:List Str}{W:Nat}(hg:Brd bd W)(r:Nat):aU [brd bd, .int (r:Int)]=M.ret (.lst ((bW W r).map cD)):=by
 have:=hg.w8
 refine aP (aB (bh (AO (n:=W) (hg.len0 rfl) (by omega)) ?_ (by simp[bW,dm];omega)))
 rw[show (bW W r).map cD=((List.range W).map fun(k:Nat)=>D.int (k:Int)).map (fun e=> .tup [.int (r:Int),e]) by simp[bW,List.map_map];intro a _;rfl]
 exact eB (g:=fun e=> .tup [.int (r:Int),e]) _ fun e _=>rfl
theorem my{bd:List Str}{W:Nat}(hg:Brd bd W):d5 [brd bd]=M.ret (.lst ((aJ bd.length W).map cD)):=by
 have h8:=hg.r8
 have w8:=hg.w8
 have hm:bd.length*W≤64:=Nat.mul_le_mul h8 w8
 have IM:(List.range bd.length).flatMap (fun r=>(bW W r).map cD)=(aJ bd.length W).map cD:=by
  unfold aJ;rw[List.map_flatMap]
 have e:=fK (put:=putN 2) (body:=fc [2] (y0 1 (ak 2 aU (aC (dV 0) (aC (dV 2) aN))))) (fun (k:Nat)=>D.int (k:Int)) (fun acc=>[fz (brd bd),some (.ow (.lst acc)),none]) (fun r=>(bW W r).map cD) (B:=64) (List.range bd.length) []
  (by rw[List.nil_append,IM,List.length_map,eU];exact hm) fun r hr acc hB=>by
   refine⟨[fz (brd bd),some (.ow (.lst acc)),fz (.int (r:Int))],rfl,?_⟩
   refine(dD (ρ':=[fz (brd bd),some (.ow (.lst (acc++(bW W r).map cD))),fz (.int (r:Int))]) ?_).trans rfl
   show (aU [brd bd, .int (r:Int)]>>=fun d=>lstM d>>=fun es=>if acc.length+es.length≤lim then M.ret (Out.nx (List.set [fz (brd bd),some (.ow (.lst acc)),fz (.int (r:Int))] 1 (some (.ow (.lst (acc++es)))))) else M.stuck)=_
   rw[eA hg,ai]
   show (if acc.length+((bW W r).map cD).length≤lim then M.ret (Out.nx [fz (brd bd),some (.ow (.lst (acc++(bW W r).map cD))),fz (.int (r:Int))]) else M.stuck)=_
   rw[if_pos (by rw[List.length_append] at hB;rw[dm];omega)]
 rw[List.nil_append,IM] at e
 refine aP (ar (ρ':=[fz (brd bd),some (.ow (.lst [])),none]) rfl (ar (ρ':=[fz (brd bd),some (.ow (.lst ((aJ bd.length W).map cD))),none]) (gB (l6 (AO (n:=bd.length) (qK rfl) (by omega)) e)) ?_))
 rfl
def bH(R W w:Nat)(c:Cell):List Cell:=
 (List.range' (c.1 - 1) (min (c.1+2) R - (c.1 - 1))).flatMap fun r=>((List.range' (c.2 - 1) (min (c.2+2) W - (c.2 - 1))).map fun k=>(r,k)).filter (i6 w c)
theorem jh{R W w:Nat}(hw:Ways w){c x:Cell}:x∈bH R W w c↔On R W x∧i6 w c x=true:=by
 unfold bH On
 simp only[List.mem_flatMap,List.mem_filter,List.mem_map,List.mem_range'_1]
 constructor
 ·rintro⟨r,⟨h1,h2⟩,⟨k,⟨h3,h4⟩,rfl⟩,h5⟩
  refine⟨⟨?_,?_⟩,h5⟩
  ·show r<R;omega
  ·show k<W;omega
 ·rintro⟨⟨h1,h2⟩,h5⟩
  have h6:eK c.1 x.1≤1∧eK c.2 x.2≤1:=by
   unfold i6 at h5
   rcases hw with rfl | rfl
   ·rw[if_pos rfl] at h5;have:=of_decide_eq_true h5;omega
   ·rw[if_neg (by decide)] at h5;have:=of_decide_eq_true h5;omega
  unfold eK at h6
  exact⟨x.1,⟨by omega,by omega⟩,⟨x.2,⟨by omega,by omega⟩,rfl⟩,h5⟩
theorem nJ(R W w:Nat)(c:Cell):(bH R W w c).length≤9:=by
 unfold bH
 rw[List.length_flatMap]
 have h:∀r,(((List.range' (c.2 - 1) (min (c.2+2) W - (c.2 - 1))).map fun k=>(r,k)).filter (i6 w c)).length≤3:=fun r=>by
  refine Nat.le_trans (List.length_filter_le ..) ?_
  rw[List.length_map,List.length_range']
  omega
 have:∀(l:List Nat),(l.map fun r=>(((List.range' (c.2 - 1) (min (c.2+2) W - (c.2 - 1))).map fun k=>(r,k)).filter (i6 w c)).length).sum≤3*l.length:=by
  intro l
  induction l with
  |nil=>simp
  |cons a l ih=>rw[List.map_cons,List.sum_cons,List.length_cons];have:=h a;omega
 refine Nat.le_trans (this _) ?_
 rw[List.length_range']
 omega
abbrev nc(b c w:D)(acc:List D)(x4 x5:Option Sl):aY:=[fz b,fz c,fz w,some (.ow (.lst acc)),x4,x5]
theorem lH{bd:List Str}{W w:Nat}(hg:Brd bd W)(hw:Ways w){c:Cell}(hc:On bd.length W c):dw [brd bd,cD c, .int (w:Int)]=M.ret (.lst ((bH bd.length W w c).map cD)):=by
 have h8:=hg.r8
 have w8:=hg.w8
 obtain⟨c1,c2⟩:=hc
 have EZ:∀n:Nat,sT [.int ((n:Int) - 1), .int 0]=M.ret (.int ((n - 1:Nat):Int)):=fun n=>by
  show M.ret (D.int (if (0:Int)>(n:Int) - 1 then 0 else(n:Int) - 1))=_
  congr 2
  split<;>omega
 have E0:∀n m:Nat,vY [.int ((n:Int)+2), .int (m:Int)]=M.ret (.int ((min (n+2) m:Nat):Int)):=fun n m=>by
  show M.ret (D.int (if (m:Int)<(n:Int)+2 then(m:Int) else(n:Int)+2))=_
  congr 2
  split<;>omega
 have inner:∀(r:Nat) (acc:List D),acc.length≤16→forL (putN 5) (fc [5] (eu (bY (ak 3 cz (aC (dV 1) (aC (dA df (aC (dV 4) (aC (dV 5) aN))) (aC (dV 2) aN))))) (rF 3 (dA df (aC (dV 4) (aC (dV 5) aN)))) bT))
  ((List.range' (c.2 - 1) (min (c.2+2) W - (c.2 - 1))).map fun(k:Nat)=>D.int (k:Int)) (nc (brd bd) (cD c) (.int (w:Int)) acc (fz (.int (r:Int))) none)=
  M.ret (.nx (nc (brd bd) (cD c) (.int (w:Int)) (acc++(List.range' (c.2 - 1) (min (c.2+2) W - (c.2 - 1))).flatMap fun k=>if i6 w c (r,k) then [cD (r,k)] else []) (fz (.int (r:Int))) none)):=fun r acc sL=>by
  refine fK (fun (k:Nat)=>D.int (k:Int)) (fun acc=>nc (brd bd) (cD c) (.int (w:Int)) acc (fz (.int (r:Int))) none) (fun k=>if i6 w c (r,k) then [cD (r,k)] else []) (B:=64) _ acc ?_ fun k hk acc hB=>?_
  ·rw[List.length_append,List.length_flatMap]
   have:∀l:List Nat,(l.map fun k=>(if i6 w c (r,k) then [cD (r,k)] else []).length).sum≤l.length:=by
    intro l
    induction l with
    |nil=>simp
    |cons a l ih=>rw[List.map_cons,List.sum_cons,List.length_cons];split<;>simp<;>omega
   have h2:=this (List.range' (c.2 - 1) (min (c.2+2) W - (c.2 - 1)))
   rw[List.length_range'] at h2
   omega
  ·refine⟨nc (brd bd) (cD c) (.int (w:Int)) acc (fz (.int (r:Int))) (fz (.int (k:Int))),rfl,?_⟩
   have ht:bY (ak 3 cz (aC (dV 1) (aC (dA df (aC (dV 4) (aC (dV 5) aN))) (aC (dV 2) aN)))) (nc (brd bd) (cD c) (.int (w:Int)) acc (fz (.int (r:Int))) (fz (.int (k:Int))))=M.ret (i6 w c (r,k)):=
    oH ((ag (ds:=[cD c,cD (r,k), .int (w:Int)]) rfl rfl).trans (oy hw c (r,k)))
   cases hn:i6 w c (r,k) with
   |true=>
    rw[hn] at ht
    rw[hn,if_pos rfl,List.length_append] at hB
    refine(dD (ρ':=nc (brd bd) (cD c) (.int (w:Int)) (acc++[cD (r,k)]) (fz (.int (r:Int))) (fz (.int (k:Int)))) (fq ht ?_)).trans rfl
    show (if acc.length<lim then M.ret (Out.nx (nc (brd bd) (cD c) (.int (w:Int)) (acc++[cD (r,k)]) (fz (.int (r:Int))) (fz (.int (k:Int))))) else M.stuck)=_
    rw[if_pos (by rw[dm];simp at hB;omega)]
   |false=>
    rw[hn] at ht
    refine(dD (ρ':=nc (brd bd) (cD c) (.int (w:Int)) acc (fz (.int (r:Int))) (fz (.int (k:Int)))) (bM ht rfl)).trans ?_
    simp
    rfl
 have flt:∀r,((List.range' (c.2 - 1) (min (c.2+2) W - (c.2 - 1))).flatMap fun k=>if i6 w c (r,k) then [cD (r,k)] else [])=(((List.range' (c.2 - 1) (min (c.2+2) W - (c.2 - 1))).map fun k=>(r,k)).filter (i6 w c)).map cD:=fun r=>by
  generalize List.range' (c.2 - 1) (min (c.2+2) W - (c.2 - 1))=l
  induction l with
  |nil=>rfl
  |cons a l ih=>
   rw[List.flatMap_cons,ih,List.map_cons,List.filter_cons]
   cases i6 w c (r,a)<;>rfl
 have tot:(List.range' (c.1 - 1) (min (c.1+2) bd.length - (c.1 - 1))).flatMap (fun r=>(((List.range' (c.2 - 1) (min (c.2+2) W - (c.2 - 1))).map fun k=>(r,k)).filter (i6 w c)).map cD)=(bH bd.length W w c).map cD:=by
  unfold bH;rw[List.map_flatMap]
 have outer:=fK (put:=putN 4) (body:=fc [4,5] (hX (putN 5) (fun ρ=>(aC (dA sT (aC (d2 sI (d2 a8 (dV 1) (dC (.int 1))) (dC (.int 1))) (aC (dC (.int 0)) aN))) (aC (dA vY (aC (d2 cI (d2 a8 (dV 1) (dC (.int 1))) (dC (.int 2))) (aC (dA aR (aC (d2 a8 (dV 0) (dC (.int 0))) aN)) aN))) aN)) ρ>>=l5) (fc [5] (eu (bY (ak 3 cz (aC (dV 1) (aC (dA df (aC (dV 4) (aC (dV 5) aN))) (aC (dV 2) aN))))) (rF 3 (dA df (aC (dV 4) (aC (dV 5) aN)))) bT))))
  (fun (k:Nat)=>D.int (k:Int)) (fun acc=>nc (brd bd) (cD c) (.int (w:Int)) acc none none) (fun r=>(((List.range' (c.2 - 1) (min (c.2+2) W - (c.2 - 1))).map fun k=>(r,k)).filter (i6 w c)).map cD) (B:=16) (List.range' (c.1 - 1) (min (c.1+2) bd.length - (c.1 - 1))) []
  (by rw[List.nil_append,tot,List.length_map];have:=nJ bd.length W w c;omega) fun r hr acc hB=>by
   refine⟨nc (brd bd) (cD c) (.int (w:Int)) acc (fz (.int (r:Int))) none,rfl,?_⟩
   have e:=inner r acc (by rw[List.length_append] at hB;omega)
   rw[flt r] at e
   refine(dD (l6 (Dz (i:=c.2 - 1) (j:=min (c.2+2) W) ?_ ?_ (by omega) (by omega)) e)).trans rfl
   ·exact(b0 (xs:=[.int ((c.2:Int) - 1), .int 0]) rfl).trans (EZ c.2)
   ·refine(b0 (xs:=[.int ((c.2:Int)+2), .int (W:Int)]) ?_).trans (E0 c.2 W)
    exact aE (show d2 cI (d2 a8 (dV 1) (dC (.int 1))) (dC (.int 2)) (nc (brd bd) (cD c) (.int (w:Int)) acc (fz (.int (r:Int))) none)=M.ret (.int ((c.2:Int)+2)) from rfl) (aE (hg.len0 rfl) rfl)
 rw[List.nil_append,tot] at outer
 refine aP (ar (ρ':=nc (brd bd) (cD c) (.int (w:Int)) [] none none) rfl (ar (ρ':=nc (brd bd) (cD c) (.int (w:Int)) ((bH bd.length W w c).map cD) none none) (gB (l6 (Dz (i:=c.1 - 1) (j:=min (c.1+2) bd.length) ?_ ?_ (by omega) (by omega)) outer)) ?_))
 ·exact(b0 (xs:=[.int ((c.1:Int) - 1), .int 0]) rfl).trans (EZ c.1)
 ·refine(b0 (xs:=[.int ((c.1:Int)+2), .int (bd.length:Int)]) ?_).trans (E0 c.1 bd.length)
  exact aE (show d2 cI (d2 a8 (dV 1) (dC (.int 0))) (dC (.int 2)) (nc (brd bd) (cD c) (.int (w:Int)) [] none none)=M.ret (.int ((c.1:Int)+2)) from rfl) (aE (qK rfl) rfl)
 ·rfl
def uL(bd:List Str)(W w:Nat)(c:Cell):List Cell:=(bH bd.length W w c).filter fun x=>decide (lt bd x=lt bd c)
theorem nk{α:Type}{f:D→M (Option D)}(enc:α→D)(p:α→Bool):∀(xs:List α),(∀x∈xs,f (enc x)=M.ret (if p x then some (enc x) else none))→cj f (xs.map enc)=M.ret ((xs.filter p).map enc)
 |[],_=>rfl
 |x::xs,h=>by
  rw[List.map_cons,cy,h x (List.mem_cons_self ..),ai,nk enc p xs fun y hy=>h y (List.mem_cons_of_mem _ hy),List.filter_cons]
  cases p x<;>rfl
end K1
namespace K1
section
variable{α:Type}[DecidableEq α]
structure Bk (α:Type) where
 ks:List α
 ps:List (Option α)
 fu:List α
variable(nb:α→List α)
def Rb(a:α):Nat→α→Prop
 |0,x=>x=a
 |k+1,x=>Rb a k x∨∃y,Rb a k y∧x∈nb y
variable{nb}{a:α}
theorem Rb.mono{i j:Nat}{x:α}(h:i≤j)(r:Rb nb a i x):Rb nb a j x:=by
 induction h with
 |refl=>exact r
 |step _ ih=>exact .inl ih
structure Grown (P:α→α→Prop) (s t:Bk α):Prop where
 ex:∃fs:List (α×α),t.ks=s.ks++fs.map (·.1)∧t.ps=s.ps++fs.map (fun p=>some p.2)∧t.fu=s.fu++fs.map (·.1)∧(∀p∈fs,P p.2 p.1)
 nd:s.ks.Nodup→t.ks.Nodup
theorem Grown.trans{P:α→α→Prop}{s t u:Bk α}(h1:Grown P s t)(h2:Grown P t u):Grown P s u:=by
 obtain⟨fs,a1,a2,a3,a4⟩:=h1.ex
 obtain⟨gs,b1,b2,b3,b4⟩:=h2.ex
 refine⟨⟨fs++gs,by rw[b1,a1];simp,by rw[b2,a2];simp,by rw[b3,a3];simp,fun p hp=>?_⟩,fun h=>h2.nd (h1.nd h)⟩
 rcases List.mem_append.mp hp with h | h
 ·exact a4 p h
 ·exact b4 p h
structure Rng (nb:α→List α) (a:α) (k:Nat) (ks:List α) (ps:List (Option α)) (ring:List α):Prop where
 len:ks.length=ps.length
 nd:ks.Nodup
 mem:∀x,x∈ks↔Rb nb a k x
 rg:∀x,x∈ring↔Rb nb a k x∧∀j,Rb nb a j x→k≤j
 par:∀x p,(x,some p)∈ks.zip ps→x∈nb p∧p∈ks∧∀j,Rb nb a j x→∃i,j=i+1∧Rb nb a i p
 non:∀x,(x,none)∈ks.zip ps→x=a
 sz:k≤ks.length∧(ring≠[]→k+1≤ks.length)
end
end K1
namespace K1
open PySem L2 L3
def keyOf(c:Cell):List Key:=[.inl (c.1:Int), .inl (c.2:Int)]
theorem je{a b:Cell}(h:keyOf a=keyOf b):a=b:=by
 unfold keyOf at h
 injection h with h1 h2
 injection h1 with h1
 injection h2 with h2 _
 injection h2 with h2
 exact Prod.ext (Int.ofNat.inj h1) (Int.ofNat.inj h2)
theorem kG(c:Cell):dQ (cD c)=some (keyOf c):=rfl
theorem jD{c:Cell}:∀{ks:List Cell}{ds:List D},c∉ks→fB (ks.map keyOf) ds (keyOf c)=none
 |[],_,_=>by simp[fB]
 |k::ks,[],_=>by simp[fB]
 |k::ks,d::ds,h=>by
  rw[List.map_cons]
  unfold fB
  rw[if_neg (fun z=>h (by rw[je z];exact List.mem_cons_self ..))]
  exact jD fun z=>h (List.mem_cons_of_mem _ z)
theorem jE{c:Cell}:∀{ks:List Cell}{ds:List D},ks.length=ds.length→c∈ks→∃d,fB (ks.map keyOf) ds (keyOf c)=some d∧(c,d)∈ks.zip ds
 |[],_,_,h=>by cases h
 |k::ks,[],hl,_=>by simp at hl
 |k::ks,d::ds,hl,h=>by
  rw[List.map_cons]
  unfold fB
  by_cases hk:k=c
  ·subst hk
   rw[if_pos rfl]
   exact⟨d,rfl,by simp⟩
  ·rw[if_neg (fun z=>hk (je z))]
   have hc:c∈ks:=by
    rcases List.mem_cons.mp h with q | q
    ·exact absurd q.symm hk
    ·exact q
   obtain⟨d',e1,e2⟩:=jE (ds:=ds) (by simpa using hl) hc
   exact⟨d',e1,by simp[e2]⟩
theorem zZ{neg:Bool}{ks:List Cell}{ds:List D}{c:Cell}(hl:ks.length=ds.length):mI neg (cD c) (.dct (ks.map keyOf) ds)=M.ret (.bl (if neg then !decide (c∈ks) else decide (c∈ks))):=by
 show (match (dQ (cD c)).map (fB (ks.map keyOf) ds) with | some o=>M.ret (D.bl (if neg then !o.isSome else o.isSome)) | none=>M.stuck)=_
 rw[kG]
 show M.ret (D.bl (if neg then !(fB (ks.map keyOf) ds (keyOf c)).isSome else(fB (ks.map keyOf) ds (keyOf c)).isSome))=_
 by_cases h:c∈ks
 ·obtain⟨d,e,_⟩:=jE hl h
  rw[e,decide_eq_true h];rfl
 ·rw[jD h,decide_eq_false h];rfl
theorem yT{ks:List Cell}{ds:List D}{c:Cell}{d:D}(h:c∉ks)(hl:ds.length<lim):mR (.dct (ks.map keyOf) ds) (cD c) d=some (.dct ((ks++[c]).map keyOf) (ds++[d])):=by
 show (match dQ (cD c) with | some kk=>if ds.length<lim then some (C.dct (f9 (ks.map keyOf) ds kk) (eF (ks.map keyOf) ds kk d)) else none | none=>none)=_
 rw[kG]
 show (if ds.length<lim then some (C.dct (f9 (ks.map keyOf) ds (keyOf c)) (eF (ks.map keyOf) ds (keyOf c) d)) else none)=_
 rw[if_pos hl]
 unfold f9 eF
 rw[jD h]
 simp
def HK:Option Cell→D
 |none=> .non
 |some c=>cD c
abbrev Ei(ks:List Cell)(ps:List (Option Cell)):C:= .dct (ks.map keyOf) (ps.map HK)
abbrev sb(b s w:D)(ks:List Cell)(ps:List (Option Cell))(x4 x5 x6 x7:Option Sl):aY:=[fz b,fz s,fz w,some (.ow (Ei ks ps)),x4,x5,x6,x7]
structure Bok (R W:Nat) (s:Bk Cell):Prop where
 len:s.ks.length=s.ps.length
 nd:s.ks.Nodup
 on:∀x∈s.ks,On R W x
 fu:s.fu.length≤s.ks.length
def fC{α:Type}[DecidableEq α](n:Nat)(enc:α→D):Prop:=∀k x y,fJ (n+k) (enc x) (enc y)=some (decide (x=y))
theorem oJ(n:Nat)(i j:Int):fJ n (.int i) (.int j)=some (i==j):=by cases n<;>rfl
theorem oK(n:Nat)(i j:Str):fJ n (.str i) (.str j)=some (i==j):=by cases n<;>rfl
theorem oM{α:Type}[DecidableEq α]{enc:α→D}{f:D→D→Option Bool}(h:∀x y,f (enc x) (enc y)=some (decide (x=y))):∀(xs ys:List α),kD f (xs.map enc) (ys.map enc)=some (decide (xs=ys))
 |[],[]=>rfl
 |[],_::_=>by simp[kD]
 |_::_,[]=>by simp[kD]
 |x::xs,y::ys=>by
  rw[List.map_cons,List.map_cons]
  show (match f (enc x) (enc y),kD f (xs.map enc) (ys.map enc) with | some b,some r=>some (b&&r) | _,_=>none)=_
  rw[h,oM h xs ys]
  show some (decide (x=y)&&decide (xs=ys))=_
  congr 1
  by_cases h1:x=y<;>by_cases h2:xs=ys<;>simp[h1,h2]
theorem sF:fC 1 cD:=fun k a b=>by
 rw[Nat.add_comm]
 show (match fJ k (.int (a.1:Int)) (.int (b.1:Int)),kD (fJ k) [.int (a.2:Int)] [.int (b.2:Int)] with | some b,some r=>some (b&&r) | _,_=>none)=_
 rw[oJ]
 show (match some ((a.1:Int)==(b.1:Int)),(match fJ k (.int (a.2:Int)) (.int (b.2:Int)),kD (fJ k) [] [] with | some b,some r=>some (b&&r) | _,_=>none) with | some b,some r=>some (b&&r) | _,_=>none)=_
 rw[oJ]
 show some (((a.1:Int)==(b.1:Int))&&(((a.2:Int)==(b.2:Int))&&true))=_
 rw[gT,gT,Bool.and_true]
 congr 1
 obtain⟨a1,a2⟩:=a
 obtain⟨b1,b2⟩:=b
 by_cases h1:a1=b1<;>by_cases h2:a2=b2<;>simp[h1,h2]
theorem oI{α:Type}[DecidableEq α]{enc:α→D}{n:Nat}(h:fC n enc):fC (n+1) (fun l:List α=> .lst (l.map enc)):=fun k x y=>by
 rw[show n+1+k=(n+k)+1 by omega]
 exact oM (h k) x y
theorem zN{α:Type}[DecidableEq α]{enc:α→D}{n:Nat}(h:fC n enc):fC (n+1) (fun l:List α=> .tup (l.map enc)):=fun k x y=>by
 rw[show n+1+k=(n+k)+1 by omega]
 exact oM (h k) x y
theorem uo:fC 0 D.str:=fun k x y=>by
 rw[oK]
 congr 1
theorem ip:fC 1 brd:=zN uo
theorem xp{α:Type}[DecidableEq α]{enc:α→D}{n:Nat}(h:fC n enc)(hn:n≤6)(x y:α):mH (enc x) (enc y)=M.ret (.bl (decide (x=y))):=by
 have:=h (6 - n) x y
 rw[show n+(6 - n)=6 by omega] at this
 unfold mH
 rw[this]
theorem eQ{α:Type}[DecidableEq α]{enc:α→D}{n:Nat}(h:fC n enc)(hn:n≤6)(x y:α):fM (enc x) (enc y)=M.ret (.bl (!decide (x=y))):=by
 have:=h (6 - n) x y
 rw[show n+(6 - n)=6 by omega] at this
 unfold fM
 rw[this]
abbrev cL(l:List Cell):D:= .lst (l.map cD)
theorem Ff(a b:Cell):fM (cD a) (cD b)=M.ret (.bl (!decide (a=b))):=eQ sF (by decide) a b
theorem Eu(a b:Cell):mH (cD a) (cD b)=M.ret (.bl (decide (a=b))):=xp sF (by decide) a b
theorem BB(a b:List Cell):fM (cL a) (cL b)=M.ret (.bl (!decide (a=b))):=eQ (oI sF) (by decide) a b
def ic(c:Cell):List Int:=[(c.1:Int),(c.2:Int)]
def DW(a b:Cell):Bool:=if a.1=b.1 then decide (a.2<b.2) else decide (a.1<b.1)
def z0(k:Cell):List Cell→List Cell
 |[]=>[k]
 |x::r=>if DW k x then k::x::r else x::z0 k r
def mh:List Cell→List Cell
 |[]=>[]
 |k::r=>z0 k (mh r)
theorem sS(a b:Cell):cS (ic a) (ic b)=DW a b:=by
 show (if (a.1:Int)=(b.1:Int) then(if (a.2:Int)=(b.2:Int) then false else decide ((a.2:Int)<(b.2:Int))) else decide ((a.1:Int)<(b.1:Int)))=_
 unfold DW
 by_cases h:a.1=b.1
 ·rw[if_pos h,if_pos (by omega)]
  by_cases h2:a.2=b.2
  ·rw[if_pos (by omega),h2];simp
  ·rw[if_neg (by omega)]
   by_cases h3:a.2<b.2
   ·rw[decide_eq_true h3,decide_eq_true (by omega)]
   ·rw[decide_eq_false h3,decide_eq_false (by omega)]
 ·rw[if_neg h,if_neg (by omega)]
  by_cases h3:a.1<b.1
  ·rw[decide_eq_true h3,decide_eq_true (by omega)]
  ·rw[decide_eq_false h3,decide_eq_false (by omega)]
theorem xP(k:Cell):∀l:List Cell,insI (ic k) (l.map ic)=(z0 k l).map ic
 |[]=>rfl
 |x::r=>by
  rw[List.map_cons]
  unfold insI z0
  rw[sS]
  cases DW k x with
  |true=>rfl
  |false=>rw[if_neg (by decide),if_neg (by decide),List.map_cons,xP k r]
theorem iX:∀l:List Cell,sortI (l.map ic)=(mh l).map ic
 |[]=>rfl
 |k::r=>by
  rw[List.map_cons]
  unfold sortI mh
  rw[iX r,xP]
theorem oU{a b:Cell}(h:ic a=ic b):a=b:=by
 unfold ic at h
 injection h with h1 h2
 injection h2 with h2 _
 exact Prod.ext (Int.ofNat.inj h1) (Int.ofNat.inj h2)
theorem vX{x:Cell}{l:List Cell}:x∈mh l↔x∈l:=by
 have h:=cF (x:=ic x) (l:=l.map ic)
 rw[iX] at h
 constructor
 ·intro hx
  obtain⟨y,hy,e⟩:=List.mem_map.mp (h.mp (List.mem_map.mpr ⟨x,hx,rfl⟩))
  rw[←oU e];exact hy
 ·intro hx
  obtain⟨y,hy,e⟩:=List.mem_map.mp (h.mpr (List.mem_map.mpr ⟨x,hx,rfl⟩))
  rw[←oU e];exact hy
def RiseC(l:List Cell):Prop:=l.Pairwise fun a b=>DW a b=true
theorem pK{l:List Cell}:si (l.map ic)↔RiseC l:=by
 unfold si RiseC
 rw[List.pairwise_map]
 constructor<;>intro h<;>refine List.Pairwise.imp ?_ h<;>intro a b q
 ·rw[←sS];exact q
 ·rw[sS];exact q
theorem qT{l:List Cell}(h:l.Nodup):(l.map ic).Nodup:=by
 unfold List.Nodup at h⊢
 rw[List.pairwise_map]
 exact List.Pairwise.imp (fun h z=>h (oU z)) h
theorem tQ{l:List Cell}(h:l.Nodup):RiseC (mh l):=by
 have:=dY (qT h)
 rw[iX] at this
 exact pK.mp this
theorem wu{a b:List Cell}(ha:RiseC a)(hb:RiseC b)(h:∀x,x∈a↔x∈b):a=b:=by
 have e:=iR (pK.mpr ha) (pK.mpr hb) fun x=>by
  constructor
  ·intro hx
   obtain⟨y,hy,rfl⟩:=List.mem_map.mp hx
   exact List.mem_map.mpr ⟨y,(h y).mp hy,rfl⟩
  ·intro hx
   obtain⟨y,hy,rfl⟩:=List.mem_map.mp hx
   exact List.mem_map.mpr ⟨y,(h y).mpr hy,rfl⟩
 have inj:∀(a b:List Cell),a.map ic=b.map ic→a=b:=by
  intro a
  induction a with
  |nil=>intro b h;cases b with
   |nil=>rfl
   |cons=>simp at h
  |cons x a ih=>intro b h;cases b with
   |nil=>simp at h
   |cons y b=>
    rw[List.map_cons,List.map_cons] at h
    injection h with h1 h2
    rw[oU h1,ih b h2]
 exact inj a b e
theorem RiseC.nodup{l:List Cell}(h:RiseC l):l.Nodup:=by
 refine List.Pairwise.imp ?_ h
 intro a b q z
 subst z
 unfold DW at q
 rw[if_pos rfl] at q
 have:=of_decide_eq_true q
 omega
theorem BD{ks:List Cell}(h:ks.Nodup)(hl:ks.length<64):dU (ks.map ic)=true:=by
 unfold dU
 rw[List.length_map,decide_eq_true (qT h),decide_eq_true hl]
 simp
 intro a b _ z
 cases z
def Cn(bd:List Str)(W w:Nat)(a b:Cell):Prop:=∃j,Rb (uL bd W w) a j b
theorem lW{bd:List Str}{W w:Nat}{a b c:Cell}{i:Nat}(h:Rb (uL bd W w) a i b):∀{j:Nat},Rb (uL bd W w) b j c→Rb (uL bd W w) a (i+j) c
 |0,q=>by rw[show c=b from q];exact h
 |j+1, .inl q=> .inl (lW h q)
 |j+1, .inr ⟨y,q,hy⟩=> .inr ⟨y,lW h q,hy⟩
section
variable{bd:List Str}{W w:Nat}{a b c:Cell}
theorem Cn.trans(h:Cn bd W w a b)(h2:Cn bd W w b c):Cn bd W w a c:=let ⟨i,q⟩:=h;let ⟨j,r⟩:=h2;⟨i+j,lW q r⟩
end
structure IsPatch (bd:List Str) (W w:Nat) (a:Cell) (P:List Cell):Prop where
 rise:RiseC P
 mem:∀x,x∈P↔Cn bd W w a x
theorem EI:((aJ 8 8).map fun c=>ny (ic c)).Nodup:=by decide+kernel
theorem nP{α β:Type}{f:α→β}:∀{l:List α},(l.map f).Nodup→∀a∈l,∀b∈l,f a=f b→a=b
 |x::l,h,a,ha,b,hb,e=>by
  rw[List.map_cons,List.nodup_cons] at h
  by_cases h1:a=x
  ·by_cases h2:b=x
   ·rw[h1,h2]
   ·have hb:b∈l:=(List.mem_cons.mp hb).resolve_left h2
    exact absurd (List.mem_map.mpr ⟨b,hb,by rw[←h1];exact e.symm⟩) h.1
  ·have ha:a∈l:=(List.mem_cons.mp ha).resolve_left h1
   by_cases h2:b=x
   ·exact absurd (List.mem_map.mpr ⟨a,ha,by rw[←h2];exact e⟩) h.1
   ·exact nP h.2 a ha b ((List.mem_cons.mp hb).resolve_left h2) e
theorem zS{R W:Nat}(hR:R≤8)(hW:W≤8){l:List Cell}(hn:l.Nodup)(Gf:∀x∈l,On R W x):(l.map fun c=>ny (ic c)).Nodup:=by
 have h8:∀x∈l,x∈aJ 8 8:=fun x hx=>dR.mpr ⟨by have:=(Gf x hx).1;omega,by have:=(Gf x hx).2;omega⟩
 rw[List.Nodup,List.pairwise_map]
 refine List.Pairwise.imp_of_mem (fun {a b} ha hb h z=>h ?_) hn
 exact nP EI a (h8 a ha) b (h8 b hb) z
theorem ll:∀l:List Cell,dP (l.map cD)=some (l.map ic)
 |[]=>rfl
 |c::l=>by
  show (match Bx (cD c),dP (l.map cD) with | some k,some ks=>some (k::ks) | _,_=>none)=_
  rw[ll l]
  rfl
theorem rO{l:List Cell}(h:RiseC l):mh l=l:=wu (tQ h.nodup) h fun x=>vX
theorem A0{l:List Cell}(h:l.Nodup)(hl:l.length<64):zd [cL l]=M.ret (cL (mh l)):=by
 show (match dP (l.map cD) with | some ks=>if dU ks then M.ret (D.lst ((sortI ks).map tupI)) else M.stuck | none=>M.stuck)=_
 rw[ll]
 refine(if_pos (BD h hl)).trans ?_
 rw[iX,List.map_map]
 rfl
theorem tT{R W:Nat}(hR:R≤8)(hW:W≤8){l:List Cell}(h:RiseC l)(hl:l.length<64)(Gf:∀x∈l,On R W x):iY (cL l)=M.ret (cL l):=by
 show (match dP (l.map cD) with | some ks=>if dU ks=true∧(ks.map ny).Nodup then M.ret (D.lst ((sortI ks).map tupI)) else M.stuck | none=>M.stuck)=_
 rw[ll]
 refine(if_pos ⟨BD h.nodup hl,by rw[List.map_map];exact zS hR hW h.nodup Gf⟩).trans ?_
 rw[iX,rO h,List.map_map]
 rfl
def Eh(w:Nat):List Cell→Bool
 |a::b::r=>i6 w a b&&Eh w (b::r)
 |_=>true
structure IsWay (bd:List Str) (W w:Nat) (a b:Cell) (p:List Cell):Prop where
 on:∀x∈p,On bd.length W x
 hd:p.head? =some a
 lst:p.getLast? =some b
 let':∀x∈p,lt bd x=lt bd a
 K5:Eh w p=true
structure Trail (nb:Cell→List Cell) (b:Cell) (p:List Cell) (x:Cell):Prop where
 hd:p.head? =some x
 lst:p.getLast? =some b
 ch:∀l r u v,p=l++u::v::r→u∈nb v
abbrev wr(bd w a b k t:D):aY:=[fz bd,fz w,fz a,fz b,fz k,fz t]
theorem cU{α:Type}{f:D→M (Option D)}(enc:α→D)(g:α→D):∀(xs:List α),(∀x∈xs,f (enc x)=M.ret (some (g x)))→cj f (xs.map enc)=M.ret (xs.map g)
 |[],_=>rfl
 |x::xs,h=>by
  rw[List.map_cons,cy,h x (List.mem_cons_self ..),ai,cU enc g xs fun y hy=>h y (List.mem_cons_of_mem _ hy)]
  rfl
theorem Gj{ρ:aY}{i:Nat}{ds:List D}(h:ρ[i]? =some (fz (.lst ds))):fI (dV i) ρ=M.ret ds:=by
 unfold fI
 rw[g7 h]
 rfl
def d3(ks:List Cell)(c:Cell):List Cell:=if c∈ks then ks else ks++[c]
def nI(l:List Cell):List Cell:=l.foldl d3 []
def bR(ks:List Cell):List D:=ks.map fun _=> .bl true
theorem wW{ks:List Cell}{c x:Cell}:x∈d3 ks c↔x∈ks∨x=c:=by
 unfold d3
 split
 ·rename_i h
  exact⟨.inl,fun q=>q.elim id fun e=>by rw[e];exact h⟩
 ·simp
theorem Bp:∀(l ks:List Cell),(ks.Nodup→(l.foldl d3 ks).Nodup)∧(∀x,x∈l.foldl d3 ks↔x∈ks∨x∈l)∧(l.foldl d3 ks).length≤ks.length+l.length
 |[],ks=>⟨id,fun x=>by simp,by simp⟩
 |c::l,ks=>by
  obtain⟨h1,h2,h3⟩:=Bp l (d3 ks c)
  refine⟨fun hn=>h1 ?_,fun x=>?_,?_⟩
  ·unfold d3
   split
   ·exact hn
   ·rename_i hc
    refine List.nodup_append.mpr ⟨hn,by simp,fun y hy z hz e=>?_⟩
    have hz:z=c:=by simpa using hz
    rw[e,hz] at hy
    exact hc hy
  ·rw[List.foldl_cons,h2 x,wW]
   simp[or_assoc]
  ·rw[List.foldl_cons,List.length_cons]
   have:(d3 ks c).length≤ks.length+1:=by unfold d3;split<;>simp
   omega
theorem vW{l:List Cell}{x:Cell}:x∈nI l↔x∈l:=by
 unfold nI
 rw[(Bp l []).2.1 x]
 simp
theorem n9{k:List Key}:∀{ks:List (List Key)}{l:List Cell},ks.length=l.length→mS ks (bR l) k (.bl true)=bR l
 |[],[],_=>rfl
 |k'::ks,c::l,h=>by
  show (if k'=k then D.bl true else D.bl true)::mS ks (bR l) k (.bl true)=_
  rw[n9 (by simpa using h)]
  split<;>rfl
 |[],_::_,h=>by simp at h
 |_::_,[],h=>by simp at h
theorem yS{ks:List Cell}{c:Cell}(hl:ks.length<lim):mR (.dct (ks.map keyOf) (bR ks)) (cD c) (.bl true)=some (.dct ((d3 ks c).map keyOf) (bR (d3 ks c))):=by
 have hlen:(bR ks).length=ks.length:=by simp[bR]
 unfold d3
 by_cases h:c∈ks
 ·rw[if_pos h]
  show (match dQ (cD c) with | some kk=>if (bR ks).length<lim then some (C.dct (f9 (ks.map keyOf) (bR ks) kk) (eF (ks.map keyOf) (bR ks) kk (.bl true))) else none | none=>none)=_
  rw[kG]
  show (if (bR ks).length<lim then some (C.dct (f9 (ks.map keyOf) (bR ks) (keyOf c)) (eF (ks.map keyOf) (bR ks) (keyOf c) (.bl true))) else none)=_
  rw[if_pos (by rw[hlen];exact hl)]
  obtain⟨d,e,_⟩:=jE (ds:=bR ks) hlen.symm h
  unfold f9 eF
  rw[e]
  show some (C.dct (ks.map keyOf) (mS (ks.map keyOf) (bR ks) (keyOf c) (.bl true)))=_
  rw[n9 (by simp)]
 ·rw[if_neg h,yT h (by rw[hlen];exact hl)]
  simp[bR]
abbrev CK(l:List Cell):D:= .dct ((nI l).map keyOf) (bR (nI l))
theorem vP{l:List Cell}(hl:l.length<4000):iw [cL l]=M.ret (CK l):=by
 have e:∀(xs ks:List Cell),ks.length+xs.length<4000→forL (putN 2) (fc [2] (u6 1 (dV 2) (dC (.bl true)))) (xs.map cD) [fz (cL l),some (.ow (.dct (ks.map keyOf) (bR ks))),none]=M.ret (.nx [fz (cL l),some (.ow (.dct ((xs.foldl d3 ks).map keyOf) (bR (xs.foldl d3 ks)))),none]):=by
  intro xs
  induction xs with
  |nil=>intro ks _;rfl
  |cons x xs ih=>
   intro ks hk
   rw[List.length_cons] at hk
   have hle:(d3 ks x).length≤ks.length+1:=by unfold d3;split<;>simp
   refine(ja (ρ1:=[fz (cL l),some (.ow (.dct (ks.map keyOf) (bR ks))),fz (cD x)]) (ρ2:=[fz (cL l),some (.ow (.dct ((d3 ks x).map keyOf) (bR (d3 ks x)))),none]) rfl ?_).trans (ih (d3 ks x) (by omega))
   refine(dD (ρ':=[fz (cL l),some (.ow (.dct ((d3 ks x).map keyOf) (bR (d3 ks x)))),fz (cD x)]) ?_).trans rfl
   show (match mR (.dct (ks.map keyOf) (bR ks)) (cD x) (.bl true) with | some c'=>M.ret (Out.nx [fz (cL l),some (.ow c'),fz (cD x)]) | none=>M.stuck)=_
   rw[yS (by rw[dm];omega)]
 refine aP (ar (ρ':=[fz (cL l),some (.ow (.dct [] [])),none]) rfl (ar (ρ':=[fz (cL l),some (.ow (.dct ((nI l).map keyOf) (bR (nI l)))),none]) (gB (l6 (ds:=l.map cD) rfl (e l [] (by simpa using hl)))) rfl))
section
variable{bd:List Str}{W w:Nat}{a b c:Cell}{p q:List Cell}
end
theorem qN{x:Cell}:∀{l:List Cell},jg (keyOf x) (l.map keyOf)=decide (x∈l)
 |[]=>rfl
 |y::l=>by
  show (decide (keyOf y=keyOf x)||jg (keyOf x) (l.map keyOf))=_
  rw[qN]
  by_cases h:y=x
  ·subst h;simp
  ·have h2:¬keyOf y=keyOf x:=fun z=>h (je z)
   rw[decide_eq_false h2,Bool.false_or,decide_eq_decide]
   constructor
   ·exact fun q=>List.mem_cons_of_mem _ q
   ·intro q
    rcases List.mem_cons.mp q with q | q
    ·exact absurd q.symm h
    ·exact q
theorem nH:∀{l:List Cell},iC (l.map cD)=some (l.map keyOf)
 |[]=>rfl
 |y::l=>by
  show (match dQ (cD y),iC (l.map cD) with | some k,some ks=>some (k::ks) | _,_=>none)=_
  rw[nH]
  rfl
theorem oW{neg:Bool}{x:Cell}{l:List Cell}:mK neg (cD x) (cL l)=M.ret (.bl (if neg then !decide (x∈l) else decide (x∈l))):=by
 show (match dQ (cD x),iC (l.map cD) with | some k,some ks=>M.ret (D.bl (if neg then !jg k ks else jg k ks)) | _,_=>M.stuck)=_
 rw[nH,kG]
 show M.ret (D.bl (if neg then !jg (keyOf x) (l.map keyOf) else jg (keyOf x) (l.map keyOf)))=_
 rw[qN]
theorem CM(l:List Cell):aR [cL l]=M.ret (.int (l.length:Int)):=by
 show M.ret (D.int ((l.map cD).length:Int))=_
 rw[List.length_map]
theorem vx{bd:List Str}{W:Nat}(hg:Brd bd W):iu [brd bd]=M.ret (cL (aJ bd.length W)):=
 aP (ar (br ((ag (ds:=[brd bd]) rfl rfl).trans hg.nb)) (aB ((ag (ds:=[brd bd]) rfl rfl).trans (my hg))))
theorem ya(a b:Nat):fM (.int (a:Int)) (.int (b:Int))=M.ret (.bl (!(a==b))):=by
 rw[ne_int,gT]
theorem jj{δi:DA}{δt:DT}{ρ:aY}{xs:List Cell}(h:δi ρ=M.ret (xs.map cD))(h2:∀x∈xs,δt (fz (cD x)::ρ)=M.ret false):b_ (d2 fM (aT 0 δi δt (dV 0)) (dA dr aN)) ρ=M.ret false:=by
 have cm:aT 0 δi δt (dV 0) ρ=M.ret (.lst []):=by
  refine bh h ?_ (Nat.zero_le _)
  have:=nk (f:=d4 0 δt (dV 0) ρ) cD (fun _=>false) xs fun x hx=>by rw[xk,h2 x hx];rfl
  rw[this,show xs.filter (fun _=>false)=[] from List.filter_eq_nil_iff.mpr fun _ _=>by simp]
  rfl
 exact dn ((aQ cm (y:= .lst []) rfl).trans rfl)
theorem vS{R W:Nat}{δ:DE}{ρ:aY}(h:δ ρ=M.ret (cL (aJ R W))):dA aR (aC δ aN) ρ=M.ret (.int ((R*W:Nat):Int)):=by
 refine(b0 (xs:=[cL (aJ R W)]) (aE h rfl)).trans ?_
 rw[CM,eU]
def rank(W:Nat)(x:Cell):Nat:=x.1*W+x.2
section
variable{bd:List Str}{W w:Nat}
structure Lab (bd:List Str) (W w:Nat) (L:Cell→Cell):Prop where
 on:∀x,On bd.length W x→On bd.length W (L x)
 cn:∀x,On bd.length W x→Cn bd W w x (L x)
 le:∀x,On bd.length W x→rank W (L x)≤rank W x
def mu(R W:Nat)(L:Cell→Cell):Nat:=((aJ R W).map fun x=>rank W (L x)).sum
end
theorem qk(R W:Nat):RiseC (aJ R W):=by
 unfold RiseC aJ bW
 rw[List.pairwise_flatMap]
 constructor
 ·intro r _
  rw[List.pairwise_map]
  exact List.pairwise_lt_range.imp fun h=>by show (if _ then _ else _)=true;rw[if_pos rfl,decide_eq_true_eq];exact h
 ·refine List.pairwise_lt_range.imp fun {a b} h x hx y hy=>?_
  obtain⟨i,_,rfl⟩:=List.mem_map.mp hx
  obtain⟨j,_,rfl⟩:=List.mem_map.mp hy
  show (if a=b then _ else decide (a<b))=true
  rw[if_neg (by omega),decide_eq_true_eq]
  exact h
section
variable{bd:List Str}{W w:Nat}
end
end K1
namespace K1
open PySem L2 L3 HT
def ij(l:List Nat):Str:=⟨l.toArray⟩
theorem bO(l:List Nat):(ij l).cps.toList=l:=by simp[ij]
theorem uJ(l:List Nat):(ij l).length=l.length:=by simp[ij,Str.length]
theorem kN(x y:Str):(x++y).cps.toList=x.cps.toList++y.cps.toList:=by
 show (x.cps++y.cps).toList=_
 simp
theorem y_(x:Str):signs x=x.cps.toList.map sg:=rfl
theorem vb:∀l:List Nat,ie (l.map sg)=some (l.map fun c=>(⟨#[c]⟩:Str))
 |[]=>rfl
 |c::r=>by
  show (ie (r.map sg)).map _=_
  rw[vb r]
  rfl
theorem uk:∀l:List Nat,cq (l.map fun c=>(⟨#[c]⟩:Str))=ij l
 |[]=>rfl
 |c::r=>by
  refine kJ ?_
  show ((⟨#[c]⟩:Str)++cq (r.map fun c=>(⟨#[c]⟩:Str))).cps.toList=_
  rw[kN,uk r,bO,bO]
  rfl
theorem zf:∀l:List Nat,((l.map fun c=>(⟨#[c]⟩:Str)).map (·.length)).sum=l.length
 |[]=>rfl
 |c::r=>by
  show 1+((r.map fun c=>(⟨#[c]⟩:Str)).map (·.length)).sum=_
  rw[zf r,List.length_cons]
  omega
theorem uD{l:List Nat}(h:l.length≤4096):joinM (.str "") [.lst (l.map sg)]=M.ret (.str (ij l)):=by
 show (match ie (l.map sg) with | some (xs:List Str)=>if ("":Str).length=0∧(xs.map fun x:Str=>x.length).sum≤lim then M.ret (D.str (cq xs)) else M.stuck | none=>M.stuck)=_
 rw[vb]
 show (if ("":Str).length=0∧((l.map fun c=>(⟨#[c]⟩:Str)).map fun x:Str=>x.length).sum≤lim then M.ret (D.str (cq (l.map fun c=>(⟨#[c]⟩:Str)))) else M.stuck)=_
 rw[if_pos ⟨rfl,by have:=zf l;rw[dm];exact Nat.le_trans (Nat.le_of_eq this) h⟩,uk]
theorem oV(c:Nat):uA ⟨#[c]⟩=decide (c∈[97,98,99,100,101,102]):=StrLaws.found_one "abcdef" c
theorem Cw(l:List Nat)(c:Nat)(neg:Bool):mJ neg (sg c) (.str (ij l))=M.ret (.bl (if neg then !decide (c∈l) else decide (c∈l))):=by
 have:=StrLaws.found_one (ij l) c
 rw[bO] at this
 show M.ret (D.bl (if neg then !(!(Builtin.Str.occurrences (ij l) ⟨#[c]⟩ 0 (ij l).length 1).isEmpty) else !(Builtin.Str.occurrences (ij l) ⟨#[c]⟩ 0 (ij l).length 1).isEmpty))=_
 rw[this]
abbrev ua:List Nat:=[97,98,99,100,101,102]
theorem AR{W:Nat}{r:Str}(h:Row W r){c:Nat}(hc:c∈r.cps.toList):c∈[97,98,99,100,101,102]:=by
 have:=h.let' c hc
 rw[oV] at this
 exact of_decide_eq_true this
def bj(bd:List Str):List Nat:=(bd.map (·.cps.toList)).flatten
theorem uC{bd:List Str}{W:Nat}(hg:Brd bd W){i:Nat}{ρ:aY}(h0:ρ[i]? =some (fz (brd bd))):dM lu joinM (dC (.str "")) (aC (dV i) aN) ρ=M.ret (.str (ij (bj bd))):=by
 have h8:=hg.r8
 have w8:=hg.w8
 show (if lu (.str "") then((aC (dV i) aN) ρ>>=fun ds=>joinM (.str "") ds) else M.stuck)=_
 rw[if_pos (show lu (.str "")=true from rfl),aE (g7 h0) (xs:=[]) rfl,ai]
 show (match ie (bd.map D.str) with | some (xs:List Str)=>if ("":Str).length=0∧(xs.map fun x:Str=>x.length).sum≤lim then M.ret (D.str (cq xs)) else M.stuck | none=>M.stuck)=_
 have e1:∀xs:List Str,ie (xs.map D.str)=some xs:=by
  intro xs
  induction xs with
  |nil=>rfl
  |cons x r ih=>show (ie (r.map D.str)).map _=_;rw[ih];rfl
 rw[e1]
 have e2:∀xs:List Str,(cq xs).cps.toList=(xs.map (·.cps.toList)).flatten:=by
  intro xs
  induction xs with
  |nil=>rfl
  |cons x r ih=>show (x++cq r).cps.toList=_;rw[kN,ih];rfl
 have e3:∀xs:List Str,(∀x∈xs,x.length≤8)→(xs.map fun x:Str=>x.length).sum≤xs.length*8:=by
  intro xs
  induction xs with
  |nil=>exact fun _=>Nat.zero_le _
  |cons x r ih=>
   intro h
   have:=ih fun y hy=>h y (List.mem_cons_of_mem _ hy)
   have:=h x (List.mem_cons_self ..)
   rw[List.map_cons,List.sum_cons,List.length_cons,Nat.add_mul]
   omega
 have e4:=e3 bd fun x hx=>by rw[(hg.rows x hx).len];exact w8
 show (if ("":Str).length=0∧(bd.map fun x:Str=>x.length).sum≤lim then M.ret (D.str (cq bd)) else M.stuck)=_
 rw[if_pos ⟨rfl,by rw[dm];omega⟩]
 congr 2
 refine kJ ?_
 rw[e2,bO]
 rfl
theorem qO{bd:List Str}{c:Nat}:c∈bj bd↔∃r∈bd,c∈r.cps.toList:=by
 unfold bj
 rw[List.mem_flatten]
 constructor
 ·rintro⟨l,hl,h⟩
  obtain⟨r,hr,rfl⟩:=List.mem_map.mp hl
  exact⟨r,hr,h⟩
 ·rintro⟨r,hr,h⟩
  exact⟨_,List.mem_map.mpr ⟨r,hr,rfl⟩,h⟩
theorem kL{bd:List Str}{W:Nat}(hg:Brd bd W){c:Nat}(h:c∈bj bd):c∈ua:=by
 obtain⟨r,hr,h⟩:=qO.mp h
 exact AR (hg.rows r hr) h
theorem uM{bd:List Str}{W:Nat}(hg:Brd bd W){c:Cell}(hc:On bd.length W c):lt bd c∈bj bd:=by
 have h1:c.1<bd.length:=hc.1
 have hr:(bd.getD c.1 ⟨#[]⟩).cps.toList.length=W:=(hg.rows _ (getD_mem h1)).len
 have h2:c.2<(bd.getD c.1 ⟨#[]⟩).cps.toList.length:=by rw[hr];exact hc.2
 refine qO.mpr ⟨_,getD_mem h1,?_⟩
 show ch (bd.getD c.1 ⟨#[]⟩) c.2∈_
 generalize bd.getD c.1 ⟨#[]⟩=r at h2
 unfold ch
 rw[List.getD_eq_getElem?_getD,List.getElem?_eq_getElem h2]
 exact List.getElem_mem h2
theorem il{bd:List Str}{i j:Nat}(hi:i<bd.length)(hj:j<bd[i].cps.toList.length):at2 bd i j=bd[i].cps.toList[j]:=by
 unfold at2 ch
 rw[List.getD_eq_getElem?_getD (l:=bd),List.getElem?_eq_getElem hi,Option.getD_some,List.getD_eq_getElem?_getD,List.getElem?_eq_getElem hj,Option.getD_some]
theorem sJ{α:Type}{l:List α}{i:Nat}{x:α}(h:l[i]? =some x)(hi:i<l.length):l[i]=x:=by
 rw[List.getElem?_eq_getElem hi] at h
 exact Option.some.inj h
theorem zG{a b:List Str}{W:Nat}(ha:∀r∈a,r.length=W)(hb:∀r∈b,r.length=W)(hl:a.length=b.length)(h:∀i j,i<a.length→j<W→at2 a i j=at2 b i j):a=b:=by
 refine List.ext_getElem hl fun i h1 h2=>?_
 have w1:a[i].cps.toList.length=W:=ha _ (List.getElem_mem h1)
 have w2:b[i].cps.toList.length=W:=hb _ (List.getElem_mem h2)
 refine kJ (List.ext_getElem (by rw[w1,w2]) fun j q1 q2=>?_)
 rw[←il h1 q1,←il h2 q2]
 exact h i j h1 (by omega)
def cB(bd:List Str):List Str:=bd.map kx
theorem eY{bd:List Str}{W:Nat}(hg:Brd bd W):bq [brd bd]=M.ret (brd (cB bd)):=by
 refine aP (ar (br ((ag (ds:=[brd bd]) rfl rfl).trans hg.nb)) (aB ?_))
 refine(b0 (xs:=[.lst ((cB bd).map D.str)]) (aE (bh (KH (i:=0) rfl) (ys:=(cB bd).map D.str) ?_ (by unfold cB;rw[List.length_map,List.length_map,dm];have:=hg.r8;omega)) rfl)).trans rfl
 unfold cB
 rw[List.map_map]
 have:∀l:List Str,cj (d4 0 bF (BX (dV 0) (d1 CO (dC (.int 1)))) [fz (brd bd)]) (l.map D.str)=M.ret (l.map (D.str∘kx)):=by
  intro l
  induction l with
  |nil=>rfl
  |cons r l ih=>rw[List.map_cons,cy,eP,ih];rfl
 exact this bd
theorem ji{bd:List Str}{W:Nat}(hG:Good bd W):Good (cB bd) W:=by
 refine⟨by unfold cB;rw[List.length_map];exact hG.r1,by unfold cB;rw[List.length_map];exact hG.r5,hG.w1,hG.w5,fun r hr=>?_⟩
 obtain⟨q,hq,rfl⟩:=List.mem_map.mp hr
 refine⟨by rw[lZ];exact(hG.rows q hq).len,fun c hc=>(hG.rows q hq).let' c ?_⟩
 unfold kx at hc
 simpa using hc
theorem o5{bd:List Str}{W i j:Nat}(hr:∀r∈bd,r.length=W)(hi:i<bd.length)(hj:j<W):at2 (cB bd) i j=at2 bd i (W - 1 - j):=by
 have hw:bd[i].cps.toList.length=W:=hr _ (List.getElem_mem hi)
 have h1:i<(cB bd).length:=by unfold cB;rw[List.length_map];exact hi
 have e0:(cB bd)[i]? =some (kx bd[i]):=by
  unfold cB
  rw[List.getElem?_map,List.getElem?_eq_getElem hi]
  rfl
 have e1:(cB bd)[i].cps.toList=bd[i].cps.toList.reverse:=by
  rw[sJ e0 h1]
  unfold kx
  simp
 have h2:j<(cB bd)[i].cps.toList.length:=by rw[e1,List.length_reverse,hw];exact hj
 rw[il h1 h2,il hi (by rw[hw];omega)]
 have:(cB bd)[i].cps.toList[j]? =bd[i].cps.toList[W - 1 - j]? :=by rw[e1,List.getElem?_reverse (by rw[hw];exact hj),hw]
 rw[List.getElem?_eq_getElem h2,List.getElem?_eq_getElem (by rw[hw];omega)] at this
 exact Option.some.inj this
def nL(R W:Nat)(g:Nat→Nat→Nat):List Str:=(List.range R).map fun i=>ij ((List.range W).map (g i))
theorem d9(R W:Nat)(g:Nat→Nat→Nat):(nL R W g).length=R:=by simp[nL]
theorem o7{R W:Nat}{g:Nat→Nat→Nat}:∀r∈nL R W g,r.length=W:=fun r hr=>by
 obtain⟨i,_,rfl⟩:=List.mem_map.mp hr
 rw[uJ,List.length_map,List.length_range]
theorem sU{R W:Nat}{g:Nat→Nat→Nat}{i j:Nat}(hi:i<R)(hj:j<W):at2 (nL R W g) i j=g i j:=by
 have h1:i<(nL R W g).length:=by rw[d9];exact hi
 have e0:(nL R W g)[i]? =some (ij ((List.range W).map (g i))):=by
  unfold nL
  rw[List.getElem?_map,List.getElem?_range hi]
  rfl
 have e1:(nL R W g)[i].cps.toList=(List.range W).map (g i):=by rw[sJ e0 h1,bO]
 have h2:j<(nL R W g)[i].cps.toList.length:=by rw[e1,List.length_map,List.length_range];exact hj
 rw[il h1 h2]
 have:(nL R W g)[i].cps.toList[j]? =some (g i j):=by rw[e1,List.getElem?_map,List.getElem?_range hj];rfl
 exact sJ this h2
theorem o6{bd:List Str}{R W:Nat}{g:Nat→Nat→Nat}(hl:bd.length=R)(hr:∀r∈bd,r.length=W)(h:∀i j,i<R→j<W→g i j=at2 bd i j):nL R W g=bd:=
 zG (W:=W) o7 hr ((d9 ..).trans hl.symm) fun i j hi hj=>by
  rw[d9] at hi
  rw[sU hi hj,h i j hi hj]
theorem qR{R W:Nat}{g:Nat→Nat→Nat}(r1:1≤R)(r5:R≤5)(w1:1≤W)(w5:W≤5)(h:∀i j,i<R→j<W→g i j∈ua):Good (nL R W g) W:=by
 refine⟨by rw[d9];exact r1,by rw[d9];exact r5,w1,w5,fun r hr=>⟨o7 r hr,fun c hc=>?_⟩⟩
 obtain⟨i,hi,rfl⟩:=List.mem_map.mp hr
 rw[bO] at hc
 obtain⟨j,hj,rfl⟩:=List.mem_map.mp hc
 exact(oV _).trans (decide_eq_true (h i j (List.mem_range.mp hi) (List.mem_range.mp hj)))
theorem ud{bd:List Str}{W i j:Nat}(hg:Brd bd W)(hi:i<bd.length)(hj:j<W):at2 bd i j∈ua:=kL hg (uM (c:=(i,j)) hg ⟨hi,hj⟩)
def turn(bd:List Str)(W:Nat):List Str:=nL W bd.length fun i j=>at2 bd (bd.length - 1 - j) i
theorem sy{bd:List Str}{W:Nat}(hg:Brd bd W){k:Nat}(hk:k<W):ba [brd bd, .int (k:Int)]=M.ret (.str (ij ((List.range bd.length).map fun j=>at2 bd (bd.length - 1 - j) k))):=by
 have h8:=hg.r8
 have cm:aT 0 (fun ρ=>(aC (dV 0) aN) ρ>>=yW) bF (d2 kq (dV 0) (dV 2)) [fz (brd bd),fz (.int (k:Int))]=M.ret (.lst (((List.range bd.length).map fun j=>at2 bd (bd.length - 1 - j) k).map sg)):=by
  have e0:bd.reverse=(List.range bd.length).map fun j=>bd.getD (bd.length - 1 - j) ⟨#[]⟩:=by
   refine List.ext_getElem (by simp) fun i h1 h2=>?_
   have hi:i<bd.length:=by simpa using h1
   rw[List.getElem_map,List.getElem_range,List.getElem_reverse,List.getD_eq_getElem?_getD,List.getElem?_eq_getElem (by omega)]
   rfl
  refine bh (ds:=bd.reverse.map D.str) ?_ ?_ (by simp[dm];omega)
  ·show M.ret ((bd.map D.str).reverse)=_
   rw[List.map_reverse]
  ·rw[e0,List.map_map,List.map_map]
   refine cU (D.str∘fun j=>bd.getD (bd.length - 1 - j) ⟨#[]⟩) _ _ fun j hj=>?_
   have hj:=List.mem_range.mp hj
   have hl:k<(bd.getD (bd.length - 1 - j) ⟨#[]⟩).length:=by rw[(hg.rows _ (getD_mem (by omega))).len];exact hk
   rw[eP]
   show (kq (.str (bd.getD (bd.length - 1 - j) ⟨#[]⟩)) (.int (k:Int))>>=fun y=>M.ret (some y))=_
   rw[u7 hl]
   rfl
 refine aP (aB ?_)
 show (if lu (.str "") then((aC _ aN) [fz (brd bd),fz (.int (k:Int))]>>=fun ds=>joinM (.str "") ds) else M.stuck)=_
 rw[if_pos (show lu (.str "")=true from rfl),aE cm (xs:=[]) rfl,ai]
 exact uD (by simp;omega)
theorem c5{bd:List Str}{W:Nat}(hg:Brd bd W):bG [brd bd]=M.ret (brd (turn bd W)):=by
 have w8:=hg.w8
 refine aP (ar (br ((ag (ds:=[brd bd]) rfl rfl).trans hg.nb)) (aB ?_))
 refine(b0 (xs:=[.lst ((turn bd W).map D.str)]) (aE (bh (AO (n:=W) (hg.len0 (i:=0) rfl) (by omega)) (ys:=(turn bd W).map D.str) ?_ (by rw[List.length_map];unfold turn;rw[d9,dm];omega)) rfl)).trans rfl
 unfold turn nL
 rw[List.map_map]
 refine cU (fun (k:Nat)=>D.int (k:Int)) _ _ fun k hk=>?_
 rw[eP,(ag (ds:=[brd bd, .int (k:Int)]) rfl rfl:ak 2 ba (aC (dV 1) (aC (dV 0) aN)) _=_),sy hg (List.mem_range.mp hk)]
 rfl
theorem gF{bd:List Str}{W:Nat}(hG:Good bd W):Good (turn bd W) bd.length:=qR hG.w1 hG.w5 hG.r1 hG.r5 fun i j hi hj=>ud hG.brd (by omega) hi
theorem b9(bd:List Str)(W:Nat):(turn bd W).length=W:=d9 ..
theorem kK{bd:List Str}{W i j:Nat}(hi:i<W)(hj:j<bd.length):at2 (turn bd W) i j=at2 bd (bd.length - 1 - j) i:=sU hi hj
theorem FV{bd:List Str}{W:Nat}(hG:Good bd W):turn (turn (turn (turn bd W) bd.length) W) bd.length=bd:=by
 refine o6 rfl (fun r q=>by rw[b9];exact(hG.rows r q).len) fun i j hi hj=>?_
 rw[b9] at hj⊢
 rw[kK (by omega) (by rw[b9];exact hi),b9,kK (by omega) (by rw[b9];omega),b9,kK (by omega) (by omega)]
 congr 1<;>omega
theorem dS(bd:List Str):(cB bd).length=bd.length:=List.length_map ..
theorem Fd(bd:List Str):cB (cB bd)=bd:=by
 unfold cB
 rw[List.map_map]
 conv=>rhs;rw[←List.map_id bd]
 refine List.map_congr_left fun r _=>kJ ?_
 show (kx (kx r)).cps.toList=r.cps.toList
 unfold kx
 simp
theorem tW{bd:List Str}{W:Nat}(hG:Good bd W):turn (cB (turn (cB bd) W)) bd.length=bd:=by
 have h1:∀r∈bd,r.length=W:=fun r q=>(hG.rows r q).len
 have h2:∀r∈turn (cB bd) W,r.length=bd.length:=fun r q=>by rw[o7 r q,dS]
 refine o6 rfl (fun r q=>by rw[dS,b9];exact h1 r q) fun i j hi hj=>?_
 rw[dS,b9] at hj⊢
 rw[o5 h2 (by rw[b9];omega) hi,kK (by omega) (by rw[dS];omega),dS,o5 h1 (by omega) (by omega)]
 congr 1<;>omega
theorem uc(R W:Nat)(g:Nat→Nat→Nat):bj (nL R W g)=(List.range R).flatMap fun i=>(List.range W).map (g i):=by
 unfold bj nL
 rw[List.map_map,List.flatMap_def]
 congr 1
 first | done | exact List.map_congr_left fun i _=>bO _
theorem kZ(c:Nat)(f:Nat→List Nat):∀l:List Nat,(l.flatMap f).count c=(l.map fun i=>(f i).count c).sum
 |[]=>rfl
 |i::l=>by rw[List.flatMap_cons,List.count_append,kZ c f l];rfl
theorem count_range(c:Nat)(g:Nat→Nat):∀n,((List.range n).map g).count c=((List.range n).map fun j=>if g j=c then 1 else 0).sum
 |0=>rfl
 |n+1=>by
  rw[List.range_succ,List.map_append,List.map_append,List.count_append,List.sum_append_nat,count_range c g n]
  congr 1
  show [g n].count c=[if g n=c then 1 else 0].sum
  by_cases h:g n=c
  ·subst h;simp
  ·simp[h]
theorem rQ(f:Nat→Nat→Nat)(m:Nat):∀n,((List.range n).map fun i=>((List.range m).map fun j=>f i j).sum).sum=((List.range m).map fun j=>((List.range n).map fun i=>f i j).sum).sum
 |0=>by
  show 0=_
  induction m with
  |zero=>rfl
  |succ m ih=>rw[List.range_succ,List.map_append,List.sum_append_nat,←ih];rfl
 |n+1=>by
  rw[List.range_succ,List.map_append,List.sum_append_nat,rQ f m n]
  have:((List.range m).map fun j=>((List.range n++[n]).map fun i=>f i j).sum)=(List.range m).map fun j=>((List.range n).map fun i=>f i j).sum+f n j:=List.map_congr_left fun j _=>by rw[List.map_append,List.sum_append_nat];simp
  rw[this]
  have add:∀(a b:Nat→Nat) (k:Nat),((List.range k).map fun j=>a j+b j).sum=((List.range k).map a).sum+((List.range k).map b).sum:=by
   intro a b k
   induction k with
   |zero=>rfl
   |succ k ih=>rw[List.range_succ,List.map_append,List.map_append,List.map_append,List.sum_append_nat,List.sum_append_nat,List.sum_append_nat,ih];simp;omega
  rw[add]
  simp
theorem va(f:Nat→Nat)(n:Nat):((List.range n).map fun j=>f (n - 1 - j)).sum=((List.range n).map f).sum:=by
 have:(List.range n).map (fun j=>f (n - 1 - j))=((List.range n).map f).reverse:=by
  refine List.ext_getElem (by simp) fun i h1 h2=>?_
  rw[List.getElem_map,List.getElem_range,List.getElem_reverse,List.getElem_map,List.getElem_range]
  simp
 rw[this,List.sum_reverse]
def BU(bd:List Str)(W c:Nat):Nat:=((List.range bd.length).map fun i=>((List.range W).map fun j=>if at2 bd i j=c then 1 else 0).sum).sum
theorem count_mk(R W:Nat)(g:Nat→Nat→Nat)(c:Nat):(bj (nL R W g)).count c=((List.range R).map fun i=>((List.range W).map fun j=>if g i j=c then 1 else 0).sum).sum:=by
 rw[uc,kZ]
 congr 1
 exact List.map_congr_left fun i _=>count_range c (g i) W
theorem Bb{bd:List Str}{W:Nat}(hg:Brd bd W):nL bd.length W (at2 bd)=bd:=o6 rfl (fun r q=>(hg.rows r q).len) fun _ _ _ _=>rfl
theorem kY{bd:List Str}{W:Nat}(hg:Brd bd W)(c:Nat):(bj bd).count c=BU bd W c:=by
 have:=count_mk bd.length W (at2 bd) c
 rw[Bb hg] at this
 exact this
theorem sD{bd:List Str}{W:Nat}(hg:Brd bd W)(c:Nat):(bj (turn bd W)).count c=(bj bd).count c:=by
 rw[kY hg,turn,count_mk,rQ]
 unfold BU
 exact va (fun i=>((List.range W).map fun j=>if at2 bd i j=c then 1 else 0).sum) bd.length
theorem sC{bd:List Str}{W:Nat}(hG:Good bd W)(c:Nat):(bj (cB bd)).count c=(bj bd).count c:=by
 have h1:∀r∈bd,r.length=W:=fun r q=>(hG.rows r q).len
 rw[kY (ji hG).brd,kY hG.brd]
 unfold BU
 rw[dS]
 congr 1
 refine List.map_congr_left fun i hi=>?_
 have:(List.range W).map (fun j=>if at2 (cB bd) i j=c then 1 else 0)=(List.range W).map fun j=>(fun k=>if at2 bd i k=c then 1 else 0) (W - 1 - j):=List.map_congr_left fun j hj=>by rw[o5 h1 (List.mem_range.mp hi) (List.mem_range.mp hj)]
 rw[this]
 exact va (fun k=>if at2 bd i k=c then 1 else 0) W
def jt(bd:List Str)(W:Nat)(some:List Cell)(c:Nat):List Str:=nL bd.length W fun i j=>if (i,j)∈some then c else at2 bd i j
theorem kA{bd:List Str}{W:Nat}(hg:Brd bd W){so:D}{l ks:List Cell}{ds:List D}(hk:iw [so]=M.ret (.dct (ks.map keyOf) ds))(hl:ks.length=ds.length)(hm:∀x,x∈ks↔x∈l)(c:Nat):b6 [brd bd,so,sg c]=M.ret (brd (jt bd W l c)):=by
 have h8:=hg.r8
 have w8:=hg.w8
 have row:∀{i:Nat},i<bd.length→∀{x4 x5:Option Sl},dM lu joinM (dC (.str "")) (aC (aT 0 (fI (dV 6)) bF (Bd (b_ (d2 (mI false) (dV 0) (dV 4))) (dV 3) (ak 2 bc (aC (dV 1) (aC (dV 0) aN))))) aN) [fz (brd bd),fz so,fz (sg c),fz (.dct (ks.map keyOf) ds),x4,x5,fz (.lst ((bW W i).map cD))]=M.ret (.str (ij ((List.range W).map fun j=>if (i,j)∈l then c else at2 bd i j))):=by
  intro i hi x4 x5
  have cm:aT 0 (fI (dV 6)) bF (Bd (b_ (d2 (mI false) (dV 0) (dV 4))) (dV 3) (ak 2 bc (aC (dV 1) (aC (dV 0) aN)))) [fz (brd bd),fz so,fz (sg c),fz (.dct (ks.map keyOf) ds),x4,x5,fz (.lst ((bW W i).map cD))]=M.ret (.lst (((List.range W).map fun j=>if (i,j)∈l then c else at2 bd i j).map sg)):=by
   refine bh (ds:=(bW W i).map cD) rfl ?_ (by simp[dm];omega)
   unfold bW
   rw[List.map_map,List.map_map]
   refine cU (cD∘fun k=>(i,k)) _ _ fun j hj=>?_
   have hj:=List.mem_range.mp hj
   have hc:On bd.length W (i,j):=⟨hi,hj⟩
   rw[eP]
   have e1:b_ (d2 (mI false) (dV 0) (dV 4)) (fz (cD (i,j))::[fz (brd bd),fz so,fz (sg c),fz (.dct (ks.map keyOf) ds),x4,x5,fz (.lst ((bW W i).map cD))])=M.ret (decide ((i,j)∈ks)):=dn ((aQ (x:=cD (i,j)) (y:= .dct (ks.map keyOf) ds) rfl rfl).trans (zZ hl))
   have e2:Bd (b_ (d2 (mI false) (dV 0) (dV 4))) (dV 3) (ak 2 bc (aC (dV 1) (aC (dV 0) aN))) (fz (cD (i,j))::[fz (brd bd),fz so,fz (sg c),fz (.dct (ks.map keyOf) ds),x4,x5,fz (.lst ((bW W i).map cD))])=M.ret (sg (if (i,j)∈l then c else at2 bd i j)):=by
    rw[En e1]
    by_cases h:(i,j)∈l
    ·rw[if_pos h,if_pos (decide_eq_true ((hm _).mpr h))]
     rfl
    ·rw[if_neg h,if_neg (fun z=>h ((hm _).mp (of_decide_eq_true z)))]
     exact(ag (ds:=[brd bd,cD (i,j)]) rfl rfl).trans (gP hg hc)
   exact(congrArg (· >>=fun y=>M.ret (some y)) e2).trans rfl
  show (if lu (.str "") then((aC _ aN) [fz (brd bd),fz so,fz (sg c),fz (.dct (ks.map keyOf) ds),x4,x5,fz (.lst ((bW W i).map cD))]>>=fun ds=>joinM (.str "") ds) else M.stuck)=_
  rw[if_pos (show lu (.str "")=true from rfl),aE cm (xs:=[]) rfl,ai]
  exact uD (by simp;omega)
 have lp:=fK (put:=putN 5) (body:=fc [5,6] (aH (cG 6 (ak 2 aU (aC (dV 0) (aC (dV 5) aN)))) (rF 4 (dM lu joinM (dC (.str "")) (aC (aT 0 (fI (dV 6)) bF (Bd (b_ (d2 (mI false) (dV 0) (dV 4))) (dV 3) (ak 2 bc (aC (dV 1) (aC (dV 0) aN))))) aN))))) (fun (k:Nat)=>D.int (k:Int)) (fun acc=>[fz (brd bd),fz so,fz (sg c),fz (.dct (ks.map keyOf) ds),some (.ow (.lst acc)),none,none]) (fun i=>[.str (ij ((List.range W).map fun j=>if (i,j)∈l then c else at2 bd i j))]) (B:=100) (List.range bd.length) [] (by
  have:∀l':List Nat,(l'.flatMap fun i=>[D.str (ij ((List.range W).map fun j=>if (i,j)∈l then c else at2 bd i j))]).length=l'.length:=by
   intro l'
   induction l' with
   |nil=>rfl
   |cons a l' ih=>rw[List.flatMap_cons,List.length_append,ih,List.length_cons];simp;omega
  rw[List.nil_append,this,List.length_range]
  omega) fun i hi acc ha=>by
  have hi:=List.mem_range.mp hi
  refine⟨[fz (brd bd),fz so,fz (sg c),fz (.dct (ks.map keyOf) ds),some (.ow (.lst acc)),fz (.int (i:Int)),none],rfl,?_⟩
  refine(dD (ρ':=[fz (brd bd),fz so,fz (sg c),fz (.dct (ks.map keyOf) ds),some (.ow (.lst (acc++[.str (ij ((List.range W).map fun j=>if (i,j)∈l then c else at2 bd i j))]))),fz (.int (i:Int)),fz (.lst ((bW W i).map cD))]) (ar (ρ':=[fz (brd bd),fz so,fz (sg c),fz (.dct (ks.map keyOf) ds),some (.ow (.lst acc)),fz (.int (i:Int)),fz (.lst ((bW W i).map cD))]) ((a9 ((ag (ds:=[brd bd, .int (i:Int)]) rfl rfl).trans (eA hg i))).trans rfl) ?_)).trans rfl
  show (dM lu joinM _ _ _>>=fun d=>if acc.length<lim then M.ret (Out.nx _) else M.stuck)=_
  rw[row hi,ai,if_pos (by rw[dm];rw[List.length_append] at ha;simp at ha;omega)]
  rfl
 refine aP (ar (ρ':=[fz (brd bd),fz so,fz (sg c),fz (.dct (ks.map keyOf) ds),none,none,none]) ((a9 ((ag (ds:=[so]) rfl rfl).trans hk)).trans rfl) (ar (ρ':=[fz (brd bd),fz so,fz (sg c),fz (.dct (ks.map keyOf) ds),some (.ow (.lst [])),none,none]) rfl (ar (gB (l6 (AO (n:=bd.length) (qK (i:=0) rfl) (by omega)) lp)) (aB ?_))))
 refine(b0 (xs:=[.lst ((List.range bd.length).flatMap fun i=>[.str (ij ((List.range W).map fun j=>if (i,j)∈l then c else at2 bd i j))])]) rfl).trans ?_
 show M.ret (D.tup _)=M.ret (D.tup ((jt bd W l c).map D.str))
 unfold jt nL
 rw[List.map_map]
 have:∀l':List Nat,(l'.flatMap fun i=>[D.str (ij ((List.range W).map fun j=>if (i,j)∈l then c else at2 bd i j))])=l'.map (D.str∘fun i=>ij ((List.range W).map fun j=>if (i,j)∈l then c else at2 bd i j)):=by
  intro l'
  induction l' with
  |nil=>rfl
  |cons a l' ih=>rw[List.flatMap_cons,ih];rfl
 rw[this]
theorem jH{bd:List Str}{W:Nat}(hg:Brd bd W){l:List Cell}(hl:l.length<4000)(c:Nat):b6 [brd bd,cL l,sg c]=M.ret (brd (jt bd W l c)):=
 kA hg (vP hl) (by simp[bR]) (fun x=>vW) c
theorem AM{bd:List Str}{W:Nat}{l:List Cell}{c i j:Nat}(hi:i<bd.length)(hj:j<W):at2 (jt bd W l c) i j=if (i,j)∈l then c else at2 bd i j:=sU hi hj
theorem yQ(bd:List Str)(W:Nat)(l:List Cell)(c:Nat):(jt bd W l c).length=bd.length:=d9 ..
theorem wq{bd:List Str}{W:Nat}(hG:Good bd W){l:List Cell}{c:Nat}(hc:c∈ua):Good (jt bd W l c) W:=qR hG.r1 hG.r5 hG.w1 hG.w5 fun i j hi hj=>by
 split
 ·exact hc
 ·exact ud hG.brd hi hj
theorem CP{p:Nat}(h:uA ⟨#[p]⟩=true):c8 [sg p]=M.ret .non:=
 kI (bM (sE (b:=true) (oH ((ag (ds:=[sg p]) rfl rfl).trans ((gO (d:=sg p) trivial).trans (by show M.ret (D.bl (true&&uA ⟨#[p]⟩))=_;rw[h];rfl))))) rfl)
theorem ft{bd:List Str}{W:Nat}(hg:Brd bd W){x:Cell}(hx:On bd.length W x){c:Nat}(hc:c∈ua):bf [brd bd,cD x,sg c]=M.ret (brd (jt bd W [x] c)):=
 aP (ar (br ((ag (ds:=[brd bd]) rfl rfl).trans hg.nb)) (ar (br ((ag (ds:=[brd bd,cD x]) rfl rfl).trans (hg.nc hx))) (ar (br ((ag (ds:=[sg c]) rfl rfl).trans (CP ((oV c).trans (decide_eq_true hc))))) (aB ((ag (ds:=[brd bd,cL [x],sg c]) rfl rfl).trans (jH hg (by simp) c))))))
theorem eL{bd:List Str}{W w:Nat}(hg:Brd bd W)(hw:Ways w){x:Cell}(hx:On bd.length W x):bP [brd bd,cD x, .int (w:Int)]=M.ret (cL (bH bd.length W w x)):=
 aP (ar (br ((ag (ds:=[brd bd]) rfl rfl).trans hg.nb)) (ar (br ((ag (ds:=[brd bd,cD x]) rfl rfl).trans (hg.nc hx))) (ar (br ((ag (ds:=[.int (w:Int)]) rfl rfl).trans hw.nw)) (aB ((ag (ds:=[brd bd,cD x, .int (w:Int)]) rfl rfl).trans (lH hg hw hx))))))
theorem cu{bd:List Str}{W:Nat}(hg:Brd bd W){c:Cell}(h:On bd.length W c):aV [brd bd,cD c]=M.ret (sg (lt bd c)):=
 aP (ar (br ((ag (ds:=[brd bd]) rfl rfl).trans hg.nb)) (ar (br ((ag (ds:=[brd bd,cD c]) rfl rfl).trans (hg.nc h))) (aB ((ag (ds:=[brd bd,cD c]) rfl rfl).trans (gP hg h)))))
theorem i9(x:Str)(c:Nat):∀(n a:Nat) (st:Array Nat×Nat),a+n≤x.length+1→st.snd≤a→st.fst.size≤a→
 (forIn (List.range' a n) st (StrLaws.occBody x ⟨#[c]⟩ x.length (x.length+1))).run.fst.size=st.fst.size+((List.range' a n).filter fun i=>decide (x.cps.toList[i]? =some c)).length
 |0,a,st,_,_,_=>rfl
 |n+1,a,st,h1,h2,h3=>by
  rw[List.range'_succ,List.forIn_cons,List.filter_cons]
  have key:=StrLaws.subAt_one x c a
  unfold StrLaws.occBody
  by_cases hc:x.cps.toList[a]? =some c
  ·have k:=key.mpr hc
   rw[if_pos ⟨⟨⟨by omega,h2⟩,k.1⟩,k.2⟩,if_pos (decide_eq_true hc)]
   have ih:=i9 x c n (a+1) (st.fst.push a,a+(⟨#[c]⟩:Str).length) (by omega) (Nat.le_refl _) (by simp;omega)
   refine Eq.trans ih ?_
   simp
   omega
  ·rw[if_neg (fun z=>hc (key.mp ⟨z.1.2,z.2⟩)),if_neg (by simpa using hc)]
   exact i9 x c n (a+1) (st.fst,st.snd) (by omega) (by show st.snd≤a+1;omega) (by show st.fst.size≤a+1;omega)
theorem oG(c:Nat):∀l:List Nat,((List.range (l.length+1)).filter fun i=>decide (l[i]? =some c)).length=l.count c
 |[]=>by simp[List.range_succ]
 |a::l=>by
  rw[List.length_cons,List.range_succ_eq_map,List.filter_cons,List.filter_map]
  have e:((fun i=>decide ((a::l)[i]? =some c))∘Nat.succ)=fun i=>decide (l[i]? =some c):=by
   funext i
   simp
  rw[e]
  by_cases h:a=c
  ·subst h
   simp only[List.getElem?_cons_zero,decide_true,if_true,List.length_cons,List.length_map,oG a l,List.count_cons_self]
  ·have h':¬(a==c)=true:=by simpa using h
   simp only[List.getElem?_cons_zero,Option.some.injEq,h,decide_false,Bool.false_eq_true,if_false,List.length_map,oG c l]
   rw[List.count_cons_of_ne h]
theorem zK(x:Str)(c:Nat):(Builtin.Str.occurrences x ⟨#[c]⟩ 0 x.length (x.length+1)).length=x.cps.toList.count c:=by
 have k:=i9 x c (x.length+1 - 0) 0 (#[],0) (by omega) (Nat.le_refl _) (Nat.le_refl _)
 rw[StrLaws.occ_eq,Array.length_toList,k,←oG c x.cps.toList]
 show 0+_=_
 rw[Nat.zero_add,Array.length_toList,List.range_eq_range']
 rfl
def vT(s:List Nat):List Nat:=ua.filter fun c=>decide (c∈s)
def Gn(s:List Nat)(c:Nat):D:= .tup [sg c, .int (s.count c:Int)]
theorem qm{α:Type}{f:D→M (Option D)}(enc:α→D)(p:α→Bool)(g:α→D):∀(xs:List α),(∀x∈xs,f (enc x)=M.ret (if p x then some (g x) else none))→cj f (xs.map enc)=M.ret ((xs.filter p).map g)
 |[],_=>rfl
 |x::xs,h=>by
  rw[List.map_cons,cy,h x (List.mem_cons_self ..),ai,qm enc p g xs fun y hy=>h y (List.mem_cons_of_mem _ hy),List.filter_cons]
  cases p x<;>rfl
theorem qL{bd:List Str}{W:Nat}(hg:Brd bd W):a7 [brd bd]=M.ret (.lst ((vT (bj bd)).map (Gn (bj bd)))):=by
 refine aP (ar (ρ':=[fz (brd bd),none]) (br ((ag (ds:=[brd bd]) rfl rfl).trans hg.nb)) (ar (ρ':=[fz (brd bd),fz (.str (ij (bj bd)))]) ((a9 (uC hg (i:=0) rfl)).trans rfl) (aB ?_)))
 refine bh (ds:=ua.map sg) rfl (qm sg (fun c=>decide (c∈bj bd)) (Gn (bj bd)) ua fun c _=>?_) ?_
 ·rw[xk]
  have e1:b_ (d2 (mJ false) (dV 0) (dV 2)) [fz (sg c),fz (brd bd),fz (.str (ij (bj bd)))]=M.ret (decide (c∈bj bd)):=dn ((aQ (x:=sg c) (y:= .str (ij (bj bd))) rfl rfl).trans (Cw _ _ false))
  have e2:dA df (aC (dV 0) (aC (dM lu ql (dV 2) (aC (dV 0) aN)) aN)) [fz (sg c),fz (brd bd),fz (.str (ij (bj bd)))]=M.ret (Gn (bj bd) c):=by
   have e3:dM lu ql (dV 2) (aC (dV 0) aN) [fz (sg c),fz (brd bd),fz (.str (ij (bj bd)))]=M.ret (.int ((bj bd).count c:Int)):=by
    show M.ret (D.int ((xj (ij (bj bd)) ⟨#[c]⟩:Nat):Int))=_
    unfold xj
    rw[zK,bO]
   exact(b0 (aE (x:=sg c) rfl (aE (xs:=[]) e3 rfl))).trans rfl
  rw[e1,e2]
  cases decide (c∈bj bd)<;>rfl
 ·rw[List.length_map,dm]
  exact Nat.le_trans (List.length_filter_le ..) (by decide)
theorem CS{δ:DE}{ρ:aY}{i:Int}(h:δ ρ=M.ret (.int i)):oS δ ρ=M.ret (some i):=by
 unfold oS
 rw[h]
 rfl
theorem qj(ns:List Int)(hl:ns.length≤63){bd:List Str}{W:Nat}(hg:Brd bd W)(k:Nat):∃c,On bd.length W c∧c7 [.scr ns, .int (k:Int),brd bd]=M.ret (cD c):=by
 obtain⟨v,hv,e⟩:=dE ns hl k bd.length hg.r1
 obtain⟨u,hu,e2⟩:=dE ns hl (k+1) W hg.w1
 refine⟨(v,u),⟨hv,hu⟩,aP (aB ((b0 (xs:=[.int (v:Int), .int (u:Int)]) (aE ?_ (aE ?_ rfl))).trans rfl))⟩
 ·exact(ag (ds:=[.scr ns, .int (k:Int), .int (bd.length:Int)]) (aE rfl (aE rfl (aE (qK (i:=2) rfl) rfl))) rfl).trans e
 ·exact(ag (ds:=[.scr ns, .int ((k+1:Nat):Int), .int (W:Int)]) (aE rfl (aE rfl (aE (hg.len0 (i:=2) rfl) rfl))) rfl).trans e2
theorem sW(R W w:Nat)(c:Cell):RiseC (bH R W w c):=by
 unfold bH RiseC
 refine List.pairwise_flatMap.mpr ⟨fun r _=>List.Pairwise.filter _ (List.pairwise_map.mpr ?_),?_⟩
 ·refine List.Pairwise.imp (fun {a b} h=>?_) (List.pairwise_lt_range' ..)
  show (if r=r then decide (a<b) else _)=true
  rw[if_pos rfl,decide_eq_true h]
 ·refine List.Pairwise.imp (fun {a b} h x hx y hy=>?_) (List.pairwise_lt_range' ..)
  obtain⟨_,_,rfl⟩:=List.mem_map.mp (List.mem_filter.mp hx).1
  obtain⟨_,_,rfl⟩:=List.mem_map.mp (List.mem_filter.mp hy).1
  show (if a=b then _ else decide (a<b))=true
  rw[if_neg (Nat.ne_of_lt h),decide_eq_true h]
def Es(p:Nat×Nat):D:= .tup [sg p.1, .int (p.2:Int)]
theorem zM:fC 1 Es:=fun k a b=>by
 rw[Nat.add_comm]
 have e:fJ k (sg a.1) (sg b.1)=some (decide (a.1=b.1)):=by
  show fJ k (.str _) (.str _)=_
  rw[oK]
  congr 1
  by_cases h:a.1=b.1
  ·rw[h,decide_eq_true rfl,beq_self_eq_true]
  ·rw[decide_eq_false h]
   exact beq_eq_false_iff_ne.mpr fun z=>h (by have:=congrArg (fun s:Str=>s.cps.toList) z;simpa using this)
 show (match fJ k (sg a.1) (sg b.1),(match fJ k (.int (a.2:Int)) (.int (b.2:Int)),kD (fJ k) [] [] with | some b,some r=>some (b&&r) | _,_=>none) with | some b,some r=>some (b&&r) | _,_=>none)=_
 rw[e,oJ]
 show some (decide (a.1=b.1)&&(((a.2:Int)==(b.2:Int))&&true))=_
 rw[gT,Bool.and_true]
 congr 1
 obtain⟨a1,a2⟩:=a
 obtain⟨b1,b2⟩:=b
 by_cases h1:a1=b1<;>by_cases h2:a2=b2<;>simp[h1,h2]
def fw(s:List Nat):List (Nat×Nat):=(vT s).map fun c=>(c,s.count c)
theorem CN(s:List Nat):(vT s).map (Gn s)=(fw s).map Es:=by
 unfold fw
 rw[List.map_map]
 rfl
theorem uK{s t:List Nat}(h:∀c,s.count c=t.count c):fw s=fw t:=by
 unfold fw vT
 have:ua.filter (fun c=>decide (c∈s))=ua.filter fun c=>decide (c∈t):=List.filter_congr fun c _=>decide_eq_decide.mpr (by rw[←List.count_pos_iff,←List.count_pos_iff,h c])
 rw[this]
 exact List.map_congr_left fun c _=>by rw[h c]
theorem eV{bd:List Str}{W:Nat}(hg:Brd bd W):a7 [brd bd]=M.ret (.lst ((fw (bj bd)).map Es)):=by rw[qL hg,CN]
theorem u9:∀{s:List Nat},(∀x∈s,x∈ua)→(ua.map fun c=>s.count c).sum=s.length
 |[],_=>rfl
 |a::s,h=>by
  have ih:=u9 (s:=s) fun x hx=>h x (List.mem_cons_of_mem _ hx)
  have ha:=h a (List.mem_cons_self ..)
  rw[List.length_cons,←ih]
  simp only[List.map_cons,List.map_nil,List.sum_cons,List.sum_nil,List.count_cons]
  simp only[List.mem_cons,List.not_mem_nil,or_false] at ha
  rcases ha with rfl | rfl | rfl | rfl | rfl | rfl<;>simp<;>omega
theorem u_{f:Nat→Nat}{p:Nat→Bool}(h:∀c,p c=false→f c=0):∀l:List Nat,((l.filter p).map f).sum=(l.map f).sum
 |[]=>rfl
 |a::l=>by
  rw[List.filter_cons,List.map_cons,List.sum_cons,←u_ h l]
  cases hp:p a with
  |true=>simp
  |false=>simp[h a hp]
theorem qd{W:Nat}:∀{l:List Str},(∀r∈l,r.length=W)→(bj l).length=l.length*W
 |[],_=>by simp[bj]
 |r::l,h=>by
  have ih:=qd (l:=l) fun x hx=>h x (List.mem_cons_of_mem _ hx)
  have hr:r.cps.toList.length=W:=h r (List.mem_cons_self ..)
  show (r.cps.toList++bj l).length=_
  rw[List.length_append,hr,ih,List.length_cons,Nat.succ_mul,Nat.add_comm]
theorem xY{bd:List Str}{W:Nat}(hg:Brd bd W):((fw (bj bd)).map fun p=>(p.2:Int)).sum=((bd.length*W:Nat):Int):=by
 have e1:((fw (bj bd)).map fun p=>p.2).sum=bd.length*W:=by
  unfold fw vT
  rw[List.map_map]
  show ((ua.filter fun c=>decide (c∈bj bd)).map fun c=>(bj bd).count c).sum=_
  rw[u_ (fun c hc=>List.count_eq_zero.mpr (of_decide_eq_false hc)),u9 fun x hx=>kL hg hx,qd fun r q=>(hg.rows r q).len]
 rw[←e1]
 generalize fw (bj bd)=l
 induction l with
 |nil=>rfl
 |cons p l ih=>rw[List.map_cons,List.map_cons,List.sum_cons,List.sum_cons,ih];simp
theorem nR:∀l:List Int,nums (l.map D.int)=some l
 |[]=>rfl
 |x::r=>by
  show (nums (r.map D.int)).map _=_
  rw[nR r]
  rfl
theorem kW{bd:List Str}{W:Nat}(hg:Brd bd W):(aJ bd.length W).map (lt bd)=bj bd:=by
 have:=uc bd.length W (at2 bd)
 rw[Bb hg] at this
 rw[this]
 unfold aJ bW
 rw[List.map_flatMap]
 congr 1
 funext r
 rw[List.map_map]
 rfl
theorem wt{bd:List Str}{W:Nat}(hg:Brd bd W){x:Cell}:jt bd W [x] (lt bd x)=bd:=o6 rfl (fun r q=>(hg.rows r q).len) fun i j hi hj=>by
 split
 ·rename_i h
  have:(i,j)=x:=by simpa using h
  rw[←this]
 ·rfl
section
variable{bd:List Str}{W:Nat}
abbrev zC(s b so:D)(x3 x4 x5:Option Sl):aY:=[fz s,fz b,fz so,x3,x4,x5]
def Ej:DS:=(fc [3,4,5] (aH (cG 4 (ak 3 bP (aC (dV 1) (aC (dV 3) (aC (dC (.int 4)) aN))))) (aH (cG 5 (ak 3 bP (aC (dV 1) (aC (dV 3) (aC (dC (.int 8)) aN))))) (aH (eu (b_ (d2 fM (aT 0 (fI (dV 4)) (jK (b_ (d2 (mK true) (dV 0) (dV 6))) (b_ (d2 (mK true) (dV 4) (ak 3 bP (aC (dV 2) (aC (dV 0) (aC (dC (.int 4)) aN))))))) (dV 0)) (dA dr aN))) (aS (dC (.bl false))) bT) (aH (eu (b_ (d2 fM (aT 0 (fI (dV 5)) (jK (b_ (d2 (mK true) (dV 4) (ak 3 bP (aC (dV 2) (aC (dV 0) (aC (dC (.int 8)) aN)))))) (b_ (d2 mH (dV 0) (dV 4)))) (dV 0)) (dA dr aN))) (aS (dC (.bl false))) bT) (aH (eu (b_ (d2 fM (dV 5) (dA zd (aC (dV 5) aN)))) (aS (dC (.bl false))) bT) (eu (b_ (d2 fM (ak 3 bf (aC (dV 1) (aC (dV 3) (aC (ak 2 aV (aC (dV 1) (aC (dV 3) aN))) aN)))) (dV 1))) (aS (dC (.bl false))) bT)))))))
theorem w6(hg:Brd bd W){x:Cell}(hx:On bd.length W x)(s so:D):Ej (zC s (brd bd) so (fz (cD x)) none none)=M.ret (.nx (zC s (brd bd) so none none none)):=by
 have w4:Ways 4:= .inl rfl
 have w8:Ways 8:= .inr rfl
 have m:∀{w:Nat},Ways w→∀{y:Cell},y∈bH bd.length W w x→On bd.length W y∧i6 w x y=true∧x∈bH bd.length W w y:=fun {w} hw {y} hy=>by
  obtain⟨h1,h2⟩:=(jh hw).mp hy
  exact⟨h1,h2,(jh hw).mpr ⟨hx,by rw[yi];exact h2⟩⟩
 refine(dD (ρ':=zC s (brd bd) so (fz (cD x)) (fz (cL (bH bd.length W 4 x))) (fz (cL (bH bd.length W 8 x)))) ?_).trans rfl
 refine ar (ρ':=zC s (brd bd) so (fz (cD x)) (fz (cL (bH bd.length W 4 x))) none) ((a9 ((ag (ds:=[brd bd,cD x, .int 4]) rfl rfl).trans (eL hg w4 hx))).trans rfl) ?_
 refine ar (ρ':=zC s (brd bd) so (fz (cD x)) (fz (cL (bH bd.length W 4 x))) (fz (cL (bH bd.length W 8 x)))) ((a9 ((ag (ds:=[brd bd,cD x, .int 8]) rfl rfl).trans (eL hg w8 hx))).trans rfl) ?_
 refine ar (bM (jj (xs:=bH bd.length W 4 x) (Gj (i:=4) rfl) fun y hy=>?_) rfl) ?_
 ·obtain⟨h1,h2,h3⟩:=m w4 hy
  have h8:y∈bH bd.length W 8 x:=(jh w8).mpr ⟨h1,Fj h2⟩
  refine(xl (p:=false) (q:=false) (dn ((aQ (x:=cD y) (y:=cL (bH bd.length W 8 x)) rfl rfl).trans (oW.trans (by rw[decide_eq_true h8];rfl)))) (dn ((aQ (x:=cD x) (y:=cL (bH bd.length W 4 y)) rfl ((ag (ds:=[brd bd,cD y, .int 4]) rfl rfl).trans (eL hg w4 h1))).trans (oW.trans (by rw[decide_eq_true h3];rfl))))).trans rfl
 refine ar (bM (jj (xs:=bH bd.length W 8 x) (Gj (i:=5) rfl) fun y hy=>?_) rfl) ?_
 ·obtain⟨h1,h2,h3⟩:=m w8 hy
  have mx:¬y=x:=fun z=>by rw[z,CQ w8] at h2;cases h2
  refine(xl (p:=false) (q:=false) (dn ((aQ (x:=cD x) (y:=cL (bH bd.length W 8 y)) rfl ((ag (ds:=[brd bd,cD y, .int 8]) rfl rfl).trans (eL hg w8 h1))).trans (oW.trans (by rw[decide_eq_true h3];rfl)))) (dn ((aQ (x:=cD y) (y:=cD x) rfl rfl).trans ((Eu _ _).trans (by rw[decide_eq_false mx]))))).trans rfl
 have hr:=sW bd.length W 8 x
 have hl:=nJ bd.length W 8 x
 refine ar (bM (dn ((aQ (x:=cL (bH bd.length W 8 x)) rfl ((b0 (xs:=[cL (bH bd.length W 8 x)]) rfl).trans ((A0 hr.nodup (by omega)).trans (by rw[rO hr])))).trans ((BB _ _).trans (by rw[decide_eq_true rfl];rfl)))) rfl) ?_
 refine bM (dn ((aQ (y:=brd bd) ((ag (ds:=[brd bd,cD x,sg (lt bd x)]) (aE rfl (aE rfl (aE ((ag (ds:=[brd bd,cD x]) rfl rfl).trans (cu hg hx)) rfl))) rfl).trans ((ft hg hx (kL hg (uM hg hx))).trans (by rw[wt hg]))) rfl).trans ((eQ ip (by decide) _ _).trans (by rw[decide_eq_true rfl];rfl)))) rfl
theorem wC(hG:Good bd W){k:Nat}(h1:1≤k)(h2:k<bd.length):gy [brd (bd.take k),brd (bd.drop k)]=M.ret (brd bd):=by
 have r5:=hG.r5
 have w5:=hG.w5
 have ha:Brd (bd.take k) W:=⟨by rw[List.length_take];omega,by rw[List.length_take];omega,hG.w1,by omega,fun r hr=>hG.rows r (List.mem_of_mem_take hr)⟩
 have hb:Brd (bd.drop k) W:=⟨by rw[List.length_drop];omega,by rw[List.length_drop];omega,hG.w1,by omega,fun r hr=>hG.rows r (List.mem_of_mem_drop hr)⟩
 have G5:eS [brd (bd.take k),brd (bd.drop k)]=M.ret .non:=by
  refine kI (ar (bM (dn ((aQ (ha.len0 (i:=0) rfl) (hb.len0 (i:=1) rfl)).trans ((ya W W).trans (by rw[beq_self_eq_true];rfl)))) rfl) (bM (dn ((aQ (x:= .int (((bd.take k).length:Int)+((bd.drop k).length:Int))) (y:= .int 8) ((aQ (qK (i:=0) rfl) (qK (i:=1) rfl)).trans rfl) rfl).trans ?_)) rfl))
  show M.ret (D.bl (decide ((8:Int)<((bd.take k).length:Int)+((bd.drop k).length:Int))))=_
  rw[decide_eq_false (by rw[List.length_take,List.length_drop];omega)]
 refine aP (ar (br ((ag (ds:=[brd (bd.take k)]) rfl rfl).trans ha.nb)) (ar (br ((ag (ds:=[brd (bd.drop k)]) rfl rfl).trans hb.nb)) (ar (br ((ag (ds:=[brd (bd.take k),brd (bd.drop k)]) rfl rfl).trans G5)) (aB ((aQ (x:=brd (bd.take k)) (y:=brd (bd.drop k)) rfl rfl).trans ?_)))))
 show (if ((bd.take k).map D.str).length+((bd.drop k).map D.str).length≤lim then M.ret (D.tup ((bd.take k).map D.str++(bd.drop k).map D.str)) else M.stuck)=_
 rw[if_pos (by rw[List.length_map,List.length_map,List.length_take,List.length_drop,dm];omega),←List.map_append,List.take_append_drop]
theorem DI{i:Nat}{ρ:aY}(h0:ρ[i]? =some (fz (brd bd))){δ:DE}{k:Nat}(hk:k≤bd.length)(hδ:δ ρ=M.ret (.int (k:Int))):DX (dV i) oN (oS δ) ρ=M.ret (brd (bd.take k))∧DX (dV i) (oS δ) oN ρ=M.ret (brd (bd.drop k)):=by
 have e1:sIx bd.length bd.length (some (k:Int))=k:=by rw[sIx_nat];omega
 have e2:sIx bd.length 0 (some (k:Int))=k:=by rw[sIx_nat];omega
 have e3:sIx bd.length 0 none=0:=rfl
 have e4:sIx bd.length bd.length none=bd.length:=rfl
 unfold DX
 rw[g7 h0,ai,ai,show oN ρ=M.ret none from rfl,ai,CS hδ,ai,ai]
 constructor
 ·show M.ret (D.tup (cutD (bd.map D.str) none (some (k:Int))))=_
  unfold cutD
  rw[List.length_map,e1,e3,List.drop_zero,Nat.sub_zero,←List.map_take]
 ·show M.ret (D.tup (cutD (bd.map D.str) (some (k:Int)) none))=_
  unfold cutD
  rw[List.length_map,e2,e4,←List.map_drop,List.take_of_length_le (by rw[List.length_map,List.length_drop];exact Nat.le_refl _)]
theorem sP(ns:List Int)(hl:ns.length≤63)(hG:Good bd W):cH [.scr ns,brd bd,cL (aJ bd.length W)]=M.ret (.bl true):=by
 have hg:=hG.brd
 have r5:=hG.r5
 obtain⟨x,hx,ex⟩:=qj ns hl hg 60
 have he:(101:Nat)∈ua:=by decide
 have hN:=wq hG (l:=[x]) he
 have IX:=yQ bd W [x] 101
 have zv:∀y,On bd.length W y→lt (jt bd W [x] 101) y=if y=x then 101 else lt bd y:=fun y hy=>by
  have:=AM (l:=[x]) (c:=101) hy.1 hy.2
  rw[show lt (jt bd W [x] 101) y=at2 (jt bd W [x] 101) y.1 y.2 from rfl,this]
  by_cases h:y=x
  ·rw[if_pos h,if_pos (by simpa using h)]
  ·rw[if_neg h,if_neg (by simpa using h)]
 have Iq:=ft hg hx he
 generalize jt bd W [x] 101=nb at hN IX zv Iq
 have hn:=hN.brd
 have on:∀{y:Cell},On bd.length W y→On nb.length W y:=fun h=>by rw[IX];exact h
 refine aP ?_
 refine ar (ρ':=[fz (.scr ns),fz (brd bd),fz (cL (aJ bd.length W)),fz (cD x),none,none]) ((a9 ((ag (ds:=[.scr ns, .int 60,brd bd]) rfl rfl).trans ex)).trans rfl) ?_
 refine ar (ρ':=[fz (.scr ns),fz (brd bd),fz (cL (aJ bd.length W)),fz (cD x),fz (brd nb),none]) ((a9 ((ag (ds:=[brd bd,cD x,sg 101]) rfl rfl).trans Iq)).trans rfl) ?_
 refine ar (bM (dn ((aQ (x:=sg 101) (y:=sg 101) ((ag (ds:=[brd nb,cD x]) rfl rfl).trans ((cu hn (on hx)).trans (by rw[zv x hx,if_pos rfl]))) rfl).trans rfl)) rfl) ?_
 refine ar (bM (jj (xs:=aJ bd.length W) (Gj (i:=2) rfl) fun y hy=>?_) rfl) ?_
 ·have hy:=dR.mp hy
  have t1:b_ (d2 fM (dV 0) (dV 4)) (fz (cD y)::[fz (.scr ns),fz (brd bd),fz (cL (aJ bd.length W)),fz (cD x),fz (brd nb),none])=M.ret (!decide (y=x)):=dn ((aQ (x:=cD y) (y:=cD x) rfl rfl).trans (Ff _ _))
  by_cases h:y=x
  ·rw[decide_eq_true h] at t1
   exact BV t1
  ·rw[decide_eq_false h] at t1
   refine(BW (p:=true) (q:=false) t1 (dn ((aQ (x:=sg (lt bd y)) (y:=sg (lt bd y)) ((ag (ds:=[brd nb,cD y]) rfl rfl).trans ((cu hn (on hy)).trans (by rw[zv y hy,if_neg h]))) ((ag (ds:=[brd bd,cD y]) rfl rfl).trans (cu hg hy))).trans ?_))).trans rfl
   exact(eQ uo (by decide) _ _).trans (by rw[decide_eq_true rfl];rfl)
 refine ar (ρ':=[fz (.scr ns),fz (brd bd),fz (cL (aJ bd.length W)),fz (cD x),fz (brd nb),none]) (gB (l6 (Dz (i:=1) (j:=bd.length) rfl (qK (i:=1) rfl) (by decide) (by omega)) (jb (fun (k:Nat)=>D.int (k:Int)) _ (List.range' 1 (bd.length - 1)) fun k hk=>?_))) ?_
 ·have hk:=List.mem_range'_1.mp hk
  obtain⟨s1,s2⟩:=DI (bd:=bd) (i:=1) (ρ:=[fz (.scr ns),fz (brd bd),fz (cL (aJ bd.length W)),fz (cD x),fz (brd nb),fz (.int (k:Int))]) (δ:=dV 5) (k:=k) rfl (by omega) rfl
  refine⟨_,rfl,(dD (bM (dn ((aQ (y:=brd bd) ((ag (ds:=[brd (bd.take k),brd (bd.drop k)]) (aE s1 (aE s2 rfl)) rfl).trans (wC hG hk.1 (by omega))) rfl).trans ((eQ ip (by decide) _ _).trans (by rw[decide_eq_true rfl];rfl)))) rfl)).trans rfl⟩
 have hlen:(aJ bd.length W).length≤64:=by rw[eU];exact Nat.mul_le_mul hg.r8 hg.w8
 refine aB ((aQ (x:= .lst ((bj bd).map sg)) (y:= .lst ((bj bd).map sg)) (bh (Gj (i:=2) rfl) ?_ ?_) ?_).trans ?_)
 ·rw[←kW hg,List.map_map]
  refine cU cD _ _ fun y hy=>?_
  rw[eP,(ag (ds:=[brd bd,cD y]) rfl rfl:ak 2 aV (aC (dV 2) (aC (dV 0) aN)) _=_),cu hg (dR.mp hy)]
  rfl
 ·rw[List.length_map,←kW hg,List.length_map,dm]
  omega
 ·refine(b0 (xs:=[.str (ij (bj bd))]) (aE (uC hg (i:=1) rfl) rfl)).trans ((if_pos ?_).trans ?_)
  ·rw[uJ,←kW hg,List.length_map,dm]
   omega
  ·rw[y_,bO]
 ·have BY:fC 0 sg:=fun k x y=>by
   show fJ (0+k) (.str _) (.str _)=_
   rw[oK]
   congr 1
   by_cases h:x=y
   ·subst h;rw[decide_eq_true rfl,beq_self_eq_true]
   ·rw[decide_eq_false h]
    exact beq_eq_false_iff_ne.mpr fun z=>h (by have:=congrArg (fun s:Str=>s.cps.toList) z;simpa using this)
  exact(xp (oI BY) (by decide) _ _).trans (by rw[decide_eq_true rfl])
end
theorem xW(ns:List Int)(hl:ns.length≤63):gx [.scr ns]=M.ret (.bl true):=by
 obtain⟨bd,W,hG,eb⟩:=vj ns hl 0 5 (by decide) (by decide)
 have hg:=hG.brd
 have hs:bd.length*W<64:=by
  have:=Nat.mul_le_mul hG.r5 hG.w5
  omega
 have GV:=gF hG
 have GW:=gF GV
 rw[b9] at GW
 have IH:=gF GW
 rw[b9] at IH
 have hM:=ji hG
 have GO:=gF hM
 rw[dS] at GO
 have GP:=ji GO
 have e1:=c5 hg
 have e2:=c5 GV.brd
 have e3:=c5 GW.brd
 have e4:=c5 IH.brd
 rw[FV hG] at e4
 have m1:=eY hg
 have m2:=eY hM.brd
 rw[Fd] at m2
 have n2:=c5 hM.brd
 have n3:=eY GO.brd
 have n4:=c5 GP.brd
 rw[tW hG] at n4
 have ce:M.ret (cL (aJ bd.length W))=M.ret (cL (aJ bd.length W)):=rfl
 refine aP ?_
 refine ar (ρ':=[fz (.scr ns),fz (brd bd),none,none,none,none]) ((a9 ((ag (ds:=[.scr ns, .int 0, .int 5]) rfl rfl).trans eb)).trans rfl) ?_
 refine ar (ρ':=zC (.scr ns) (brd bd) (cL (aJ bd.length W)) none none none) ((a9 ((ag (ds:=[brd bd]) rfl rfl).trans (vx hg))).trans rfl) ?_
 have ln:dA aR (aC (dV 2) aN) (zC (.scr ns) (brd bd) (cL (aJ bd.length W)) none none none)=M.ret (.int ((bd.length*W:Nat):Int)):=vS rfl
 have mu:d2 eT (dA aR (aC (dV 1) aN)) (dA aR (aC (d2 a8 (dV 1) (dC (.int 0))) aN)) (zC (.scr ns) (brd bd) (cL (aJ bd.length W)) none none none)=M.ret (.int ((bd.length*W:Nat):Int)):=(aQ (qK (i:=1) rfl) (hg.len0 (i:=1) rfl)).trans ((dO (.inl ⟨by omega,by have:=hG.r5;omega⟩)).trans (by rw[Int.natCast_mul]))
 refine ar (bM ((xl (p:=false) (q:=false) (dn ((aQ (x:=cL (aJ bd.length W)) rfl (tT hg.r8 hg.w8 (qk _ _) (by rw[eU];exact hs) fun x hx=>dR.mp hx)).trans ((BB _ _).trans (by rw[decide_eq_true rfl];rfl)))) (dn ((aQ ln mu).trans ((ya _ _).trans (by rw[beq_self_eq_true];rfl))))).trans rfl) rfl) ?_
 refine ar (ρ':=zC (.scr ns) (brd bd) (cL (aJ bd.length W)) none none none) (gB (l6 (ds:=(aJ bd.length W).map cD) rfl (jb (body:=Ej) cD _ (aJ bd.length W) fun x hx=>⟨_,rfl,w6 hg (dR.mp hx) ..⟩))) ?_
 refine ar (bM (dn ((aQ (y:=brd bd) ((ag (ds:=[brd (turn (turn (turn bd W) bd.length) W)]) (aE ((ag (ds:=[brd (turn (turn bd W) bd.length)]) (aE ((ag (ds:=[brd (turn bd W)]) (aE ((ag (ds:=[brd bd]) rfl rfl).trans e1) rfl) rfl).trans e2) rfl) rfl).trans e3) rfl) rfl).trans e4) rfl).trans ((eQ ip (by decide) _ _).trans (by rw[decide_eq_true rfl];rfl)))) rfl) ?_
 refine ar (bM (dn ((aQ (y:=brd bd) ((ag (ds:=[brd (cB bd)]) (aE ((ag (ds:=[brd bd]) rfl rfl).trans m1) rfl) rfl).trans m2) rfl).trans ((eQ ip (by decide) _ _).trans (by rw[decide_eq_true rfl];rfl)))) rfl) ?_
 refine ar (bM (dn ((aQ (y:=brd bd) ((ag (ds:=[brd (cB (turn (cB bd) W))]) (aE ((ag (ds:=[brd (turn (cB bd) W)]) (aE ((ag (ds:=[brd (cB bd)]) (aE ((ag (ds:=[brd bd]) rfl rfl).trans m1) rfl) rfl).trans n2) rfl) rfl).trans n3) rfl) rfl).trans n4) rfl).trans ((eQ ip (by decide) _ _).trans (by rw[decide_eq_true rfl];rfl)))) rfl) ?_
 have l0:=eV hg
 have l1:=eV GV.brd
 rw[uK (sD hg)] at l1
 have l2:=eV hM.brd
 rw[uK (sC hG)] at l2
 have BA:=(eQ (oI zM) (by decide) (fw (bj bd)) (fw (bj bd))).trans (by rw[decide_eq_true rfl];rfl:_=M.ret (D.bl false))
 refine ar (bM (dn ((aQ ((ag (ds:=[brd (turn bd W)]) (aE ((ag (ds:=[brd bd]) rfl rfl).trans e1) rfl) rfl).trans l1) ((ag (ds:=[brd bd]) rfl rfl).trans l0)).trans BA)) rfl) ?_
 have cm:aT 2 (fI (ak 1 a7 (aC (dV 1) aN))) bF (dV 1) (zC (.scr ns) (brd bd) (cL (aJ bd.length W)) none none none)=M.ret (.lst (((fw (bj bd)).map fun p=>(p.2:Int)).map D.int)):=by
  refine bh (ds:=(fw (bj bd)).map Es) ?_ ?_ ?_
  ·show (ak 1 a7 (aC (dV 1) aN) _>>=lstM)=_
   rw[(ag (ds:=[brd bd]) rfl rfl:ak 1 a7 (aC (dV 1) aN) _=_),l0]
   rfl
  ·rw[List.map_map]
   exact cU Es _ _ fun p _=>rfl
  ·rw[List.length_map,List.length_map]
   unfold fw vT
   rw[List.length_map,dm]
   exact Nat.le_trans (List.length_filter_le ..) (by decide)
 refine ar (bM (dn ((aQ (x:= .int ((bd.length*W:Nat):Int)) ((b0 (xs:=[.lst (((fw (bj bd)).map fun p=>(p.2:Int)).map D.int)]) (aE cm rfl)).trans ?_) ln).trans ((ya _ _).trans (by rw[beq_self_eq_true];rfl)))) rfl) ?_
 ·show (match nums (((fw (bj bd)).map fun p=>(p.2:Int)).map D.int) with | some ns=>M.ret (D.int ns.sum) | none=>M.stuck)=_
  rw[nR]
  show M.ret (D.int ((fw (bj bd)).map fun p=>(p.2:Int)).sum)=_
  rw[xY hg]
 refine ar (bM (dn ((aQ ((ag (ds:=[brd (cB bd)]) (aE ((ag (ds:=[brd bd]) rfl rfl).trans m1) rfl) rfl).trans l2) ((ag (ds:=[brd bd]) rfl rfl).trans l0)).trans BA)) rfl) ?_
 exact aB ((ag (ds:=[.scr ns,brd bd,cL (aJ bd.length W)]) rfl rfl).trans (sP ns hl hG))
end K1
namespace K1
open PySem PySem.Spec L2 L3
open PyProof.Rows hiding St
def DF(K:W.Frag)(x:Str)(s:Stmt):Prop:=∃(f:Addr) (oc:Value) (od an:Option Addr) (sl:Array (Option Value)) (kV dc pm cd ct:Value),PySem.W.nsIn K mainGlobals x=some (some (.ref f))∧K.lookup f=some ⟨oc,od, .func (PySem.W.fnOf x x (c6 s) (aO s) (af s) .none kV dc pm an cd ct),sl⟩∧PySem.W.codeIn K cd x=true∧PySem.W.keepIn K (.ref f)=true
theorem DF.mk{K:W.Frag}{x:Str}{s:Stmt}{f:Addr}{oc:Value}{od an:Option Addr}{sl:Array (Option Value)}{kV dc pm cd ct:Value}(a:PySem.W.nsIn K mainGlobals x=some (some (.ref f)))(l:K.lookup f=some ⟨oc,od, .func (PySem.W.fnOf x x (c6 s) (aO s) (af s) .none kV dc pm an cd ct),sl⟩)(c:PySem.W.codeIn K cd x=true)(k:PySem.W.keepIn K (.ref f)=true):DF K x s:=⟨f,oc,od,an,sl,kV,dc,pm,cd,ct,a,l,c,k⟩
theorem DF.at{K:W.Frag}{x:Str}{s:Stmt}{h:Heap}{mg:Str→Option Value}(X:K.In h)(G:h.Ns mainGlobals mg)(d:DF K x s):∃f,a_ K mg x s f:=by
 obtain⟨f,oc,od,an,sl,kV,dc,pm,cd,ct,a,l,c,k⟩:=d
 exact⟨f,PySem.W.mg_of X G a,_,xx (st:=s) l c k⟩
theorem all_mk{P:Program}{w:World}{K:W.Frag}{h:Heap}{mg:Str→Option Value}{fa:Addr}(X:K.In h)(G:h.Ns mainGlobals mg)(J7:mg "law"=some (.ref fa))
 {g8:Addr}{tf kM:Option Addr}{tO:Array (Option Value)}{s_ ly k6 lV g5 k0:Value}
 {wD:Tok}
 {rR:Tok}
 {mi:Tok}
 (d_is_whole:DF K "is_whole" h7)
 (d_is_letter:DF K "is_letter" gf)
 (d_need_fit:DF K "need_fit" ib)
 (d_cells_of_row:DF K "cells_of_row" cP)
 (d_letter_of:DF K "letter_of" gi)
 (d_are_next:DF K "are_next" hZ)
 (d_keyed:DF K "keyed" pM)
 (d_column_from_below:DF K "column_from_below" bC)
 (d_law_cell:DF K "_law_cell" h9)
 (d_is_row:DF K "is_row" iS)
 (d_is_cell:DF K "is_cell" jy)
 (d_need_letter:DF K "need_letter" er)
 (d_need_ways:DF K "need_ways" gk)
 (d_all_cells:DF K "all_cells" gc)
 (d_next_cells:DF K "next_cells" fi)
 (d_with_letters:DF K "with_letters" cR)
 (d_law_drawn:DF K "_law_drawn" gg)
 (d_is_board:DF K "is_board" dX)
 (d_need_cell:DF K "need_cell" gj)
 (d_law_board:DF K "_law_board" eh)
 (d_law_cell_in:DF K "_law_cell_in" eo)
 (d_need_board:DF K "need_board" fg)
 (d_cells:DF K "cells" pL)
 (d_letter_at:DF K "letter_at" gh)
 (d_with_letter:DF K "with_letter" et)
 (d_beside:DF K "beside" l7)
 (d_turned:DF K "turned" iT)
 (d_mirrored:DF K "mirrored" fe)
 (d_stacked:DF K "stacked" jz)
 (d_letters:DF K "letters" gE)
 (d_law_is_put:DF K "_law_is_put" cQ)
 (a_law_k03:PySem.W.nsIn K mainGlobals "law"=some (some (.ref g8)))(l_law_k03:K.lookup g8=some ⟨s_,tf, .func (PySem.W.fnOf "law" "law" (c6 aq) (aO aq) (af aq) .none ly k6 lV kM g5 k0),tO⟩)(c_law_k03:PySem.W.codeIn K g5 "law"=true)(k_law_k03:PySem.W.keepIn K (.ref g8)=true)
 (z_len:PySem.W.nsIn K mainGlobals "len"=some none)
 (z_isinstance:PySem.W.nsIn K mainGlobals "isinstance"=some none)
 (z_all:PySem.W.nsIn K mainGlobals "all"=some none)
 (z_abs:PySem.W.nsIn K mainGlobals "abs"=some none)
 (z_max:PySem.W.nsIn K mainGlobals "max"=some none)
 (z_min:PySem.W.nsIn K mainGlobals "min"=some none)
 (z_sum:PySem.W.nsIn K mainGlobals "sum"=some none)
 (z_range:PySem.W.nsIn K mainGlobals "range"=some none)
 (z_str:PySem.W.nsIn K mainGlobals "str"=some none)
 (z_int:PySem.W.nsIn K mainGlobals "int"=some none)
 (z_bool:PySem.W.nsIn K mainGlobals "bool"=some none)
 (z_tuple:PySem.W.nsIn K mainGlobals "tuple"=some none)
 (z_list:PySem.W.nsIn K mainGlobals "list"=some none)
 (z_set:PySem.W.nsIn K mainGlobals "set"=some none)
 (z_sorted:PySem.W.nsIn K mainGlobals "sorted"=some none)
 (z_reversed:PySem.W.nsIn K mainGlobals "reversed"=some none)
 (y_LETTERS:PySem.W.nsIn K mainGlobals "LETTERS"=some (some (.str "abcdef" wD)))
 (y_MOST_ROWS:PySem.W.nsIn K mainGlobals "MOST_ROWS"=some (some (.int 8 rR)))
 (y_MOST_COLUMNS:PySem.W.nsIn K mainGlobals "MOST_COLUMNS"=some (some (.int 8 mi))):
 ∃(cv:Nat→Value) (fd:FuncData),(∀(s:Shared) (u:Value),BindsTo s fd ⟨[u],[]⟩ [("_law_script",u)])∧∀base:Heap,K.In base→base.Ns mainGlobals mg→FnOk P w K mg base (i7 P w cv) 7 fa fd ["_law_script"] (D8 K cv 1 gx):=by
 have ea:=J7.symm.trans (PySem.W.mg_of X G a_law_k03)
 cases ea
 refine⟨fun _=> .none,PySem.W.fnOf "law" "law" (c6 aq) (aO aq) (af aq) .none ly k6 lV kM g5 k0,fun s v=> .of_eq rfl,fun base KB GB=>?_⟩
 have B:Bl K mg base (fun _=> .none) (fun _=>mainGlobals) mainGlobals:=⟨PySem.W.mg_none_of X G z_len,PySem.W.mg_none_of X G z_isinstance,PySem.W.mg_none_of X G z_all,PySem.W.mg_none_of X G z_abs,PySem.W.mg_none_of X G z_max,PySem.W.mg_none_of X G z_min,PySem.W.mg_none_of X G z_sum,PySem.W.mg_none_of X G z_range,PySem.W.mg_none_of X G z_str,PySem.W.mg_none_of X G z_int,PySem.W.mg_none_of X G z_bool,PySem.W.mg_none_of X G z_tuple,PySem.W.mg_none_of X G z_list,PySem.W.mg_none_of X G z_set,PySem.W.mg_none_of X G z_sorted,PySem.W.mg_none_of X G z_reversed,⟨_,PySem.W.mg_of X G y_LETTERS⟩,⟨_,PySem.W.mg_of X G y_MOST_ROWS⟩,⟨_,PySem.W.mg_of X G y_MOST_COLUMNS⟩⟩
 have lI:=(DF.at X G d_is_whole).elim fun _ t=>q9 (P:=P) (w:=w) B t
 have jV:=(DF.at X G d_is_letter).elim fun _ t=>pd (P:=P) (w:=w) B t
 have s9:=(DF.at X G d_need_fit).elim fun _ t=>rb (P:=P) (w:=w) B t
 have fS:=(DF.at X G d_cells_of_row).elim fun _ t=>kr (P:=P) (w:=w) B t
 have jY:=(DF.at X G d_letter_of).elim fun _ t=>pj (P:=P) (w:=w) B t
 have sX:=(DF.at X G d_are_next).elim fun _ t=>qZ (P:=P) (w:=w) B t
 have Af:=(DF.at X G d_keyed).elim fun _ t=>yn (P:=P) (w:=w) B t
 have gK:=(DF.at X G d_column_from_below).elim fun _ t=>fU (P:=P) (w:=w) B t
 have sZ:=(DF.at X G d_law_cell).elim fun _ t=>q_ (P:=P) (w:=w) B t
 have yk:=(DF.at X G d_is_row).elim fun _ t=>v_ (P:=P) (w:=w) B jV t
 have v3:=(DF.at X G d_is_cell).elim fun _ t=>tj (P:=P) (w:=w) B lI t
 have mN:=(DF.at X G d_need_letter).elim fun _ t=>lL (P:=P) (w:=w) B jV t
 have qX:=(DF.at X G d_need_ways).elim fun _ t=>pq (P:=P) (w:=w) B lI t
 have qV:=(DF.at X G d_all_cells).elim fun _ t=>pb (P:=P) (w:=w) B fS t
 have o_:=(DF.at X G d_next_cells).elim fun _ t=>mQ (P:=P) (w:=w) B sX t
 have lJ:=(DF.at X G d_with_letters).elim fun _ t=>ku (P:=P) (w:=w) B Af fS jY t
 have jW:=(DF.at X G d_law_drawn).elim fun _ t=>pf (P:=P) (w:=w) B sZ t
 have sY:=(DF.at X G d_is_board).elim fun _ t=>q0 (P:=P) (w:=w) B yk t
 have fT:=(DF.at X G d_need_cell).elim fun _ t=>pk (P:=P) (w:=w) B v3 t
 have qW:=(DF.at X G d_law_board).elim fun _ t=>pe (P:=P) (w:=w) B jW t
 have mM:=(DF.at X G d_law_cell_in).elim fun _ t=>lK (P:=P) (w:=w) B jW t
 have bw:=(DF.at X G d_need_board).elim fun _ t=>mP (P:=P) (w:=w) B sY t
 have Ae:=(DF.at X G d_cells).elim fun _ t=>ym (P:=P) (w:=w) B bw qV t
 have jX:=(DF.at X G d_letter_at).elim fun _ t=>ph (P:=P) (w:=w) B bw fT jY t
 have gU:=(DF.at X G d_with_letter).elim fun _ t=>lM (P:=P) (w:=w) B bw fT mN lJ t
 have yj:=(DF.at X G d_beside).elim fun _ t=>v9 (P:=P) (w:=w) B bw fT qX o_ t
 have yl:=(DF.at X G d_turned).elim fun _ t=>wa (P:=P) (w:=w) B bw gK t
 have s8:=(DF.at X G d_mirrored).elim fun _ t=>ra (P:=P) (w:=w) B bw t
 have v7:=(DF.at X G d_stacked).elim fun _ t=>tq (P:=P) (w:=w) B bw s9 t
 have v5:=(DF.at X G d_letters).elim fun _ t=>tm (P:=P) (w:=w) B bw t
 have o9:=(DF.at X G d_law_is_put).elim fun _ t=>mO (P:=P) (w:=w) B mM gU jX v7 t
 exact qY B qW Ae o9 yj yl s8 v5 gU jX (xx (st:=aq) l_law_k03 c_law_k03 k_law_k03)
end K1
open PySem PySem.W PyProof.Rows
set_option maxHeartbeats 0 in
theorem PySem.Challenge.cw_cellpatches_k03_whole_boards_holds : PySem.Challenge.rw_cellpatches_k03_whole_boards.Holds := by
 w_on;o_law
 refine holds_open (q:=K1.rW) (loose:=[]) (Xt:=fun s=>xlAt K1.rW [] s&&recOk (RowW.records (OpenRow.toRowW _)) s) (XP:=XL K1.rW []) (Yf:=Hook.obs (kHook K1.lb K1.la (fun _=>by kernel_rfl))) (Ya:=Hook.val (kHook K1.lb K1.la (fun _=>by kernel_rfl))) (YP:=Hook.says (kHook K1.lb K1.la (fun _=>by kernel_rfl))) (N:=4584) ?hl (Hook.of (kHook K1.lb K1.la (fun _=>by kernel_rfl))) (Hook.keeps (kHook K1.lb K1.la (fun _=>by kernel_rfl))) (fun s e=>xl_of s (Bool.and_eq_true_iff.mp e).1) XL.keeps (by rfl) (by rfl) (by rfl) (fun s e=>recFacts_of (Bool.and_eq_true_iff.mp e).2) (by rfl) (by first | assumption | decide+kernel) (by decide+kernel) ⟨rfl,rfl,rfl,rfl,rfl,by decide+kernel⟩ ?hw ?hc
 case hl=>exact K1.EU
 (case hw=>w_witness2)
 k_fill
 refine L3.FW (l:=PySem.Challenge.rw_cellpatches_k03_whole_boards) (k:=7) (n:=63) (x:="_law_script") (g:=K1.gx) rfl (by decide) rfl ⟨rfl,by decide,by decide⟩ (fun w h Y=>PySem.W.kIn_of Y) K1.xW ?F
 case F=>
  intro w mg fa h KX G Cf
  refine' K1.all_mk KX G Cf ?d_is_whole ?d_is_letter ?d_need_fit ?d_cells_of_row ?d_letter_of ?d_are_next ?d_keyed ?d_column_from_below ?d_law_cell ?d_is_row ?d_is_cell ?d_need_letter ?d_need_ways ?d_all_cells ?d_next_cells ?d_with_letters ?d_law_drawn ?d_is_board ?d_need_cell ?d_law_board ?d_law_cell_in ?d_need_board ?d_cells ?d_letter_at ?d_with_letter ?d_beside ?d_turned ?d_mirrored ?d_stacked ?d_letters ?d_law_is_put ?a_law_k03 ?l_law_k03 ?c_law_k03 ?k_law_k03 ?z_len ?z_isinstance ?z_all ?z_abs ?z_max ?z_min ?z_sum ?z_range ?z_str ?z_int ?z_bool ?z_tuple ?z_list ?z_set ?z_sorted ?z_reversed ?y_LETTERS ?y_MOST_ROWS ?y_MOST_COLUMNS
  (case d_is_whole=>(refine' K1.DF.mk ?a ?l ?c ?k;(case a=>k_is);(case l=>k_is);(case c=>k_is);(case k=>k_is)))
  (case d_is_letter=>(refine' K1.DF.mk ?a ?l ?c ?k;(case a=>k_is);(case l=>k_is);(case c=>k_is);(case k=>k_is)))
  (case d_need_fit=>(refine' K1.DF.mk ?a ?l ?c ?k;(case a=>k_is);(case l=>k_is);(case c=>k_is);(case k=>k_is)))
  (case d_cells_of_row=>(refine' K1.DF.mk ?a ?l ?c ?k;(case a=>k_is);(case l=>k_is);(case c=>k_is);(case k=>k_is)))
  (case d_letter_of=>(refine' K1.DF.mk ?a ?l ?c ?k;(case a=>k_is);(case l=>k_is);(case c=>k_is);(case k=>k_is)))
  (case d_are_next=>(refine' K1.DF.mk ?a ?l ?c ?k;(case a=>k_is);(case l=>k_is);(case c=>k_is);(case k=>k_is)))
  (case d_keyed=>(refine' K1.DF.mk ?a ?l ?c ?k;(case a=>k_is);(case l=>k_is);(case c=>k_is);(case k=>k_is)))
  (case d_column_from_below=>(refine' K1.DF.mk ?a ?l ?c ?k;(case a=>k_is);(case l=>k_is);(case c=>k_is);(case k=>k_is)))
  (case d_law_cell=>(refine' K1.DF.mk ?a ?l ?c ?k;(case a=>k_is);(case l=>k_is);(case c=>k_is);(case k=>k_is)))
  (case d_is_row=>(refine' K1.DF.mk ?a ?l ?c ?k;(case a=>k_is);(case l=>k_is);(case c=>k_is);(case k=>k_is)))
  (case d_is_cell=>(refine' K1.DF.mk ?a ?l ?c ?k;(case a=>k_is);(case l=>k_is);(case c=>k_is);(case k=>k_is)))
  (case d_need_letter=>(refine' K1.DF.mk ?a ?l ?c ?k;(case a=>k_is);(case l=>k_is);(case c=>k_is);(case k=>k_is)))
  (case d_need_ways=>(refine' K1.DF.mk ?a ?l ?c ?k;(case a=>k_is);(case l=>k_is);(case c=>k_is);(case k=>k_is)))
  (case d_all_cells=>(refine' K1.DF.mk ?a ?l ?c ?k;(case a=>k_is);(case l=>k_is);(case c=>k_is);(case k=>k_is)))
  (case d_next_cells=>(refine' K1.DF.mk ?a ?l ?c ?k;(case a=>k_is);(case l=>k_is);(case c=>k_is);(case k=>k_is)))
  (case d_with_letters=>(refine' K1.DF.mk ?a ?l ?c ?k;(case a=>k_is);(case l=>k_is);(case c=>k_is);(case k=>k_is)))
  (case d_law_drawn=>(refine' K1.DF.mk ?a ?l ?c ?k;(case a=>k_is);(case l=>k_is);(case c=>k_is);(case k=>k_is)))
  (case d_is_board=>(refine' K1.DF.mk ?a ?l ?c ?k;(case a=>k_is);(case l=>k_is);(case c=>k_is);(case k=>k_is)))
  (case d_need_cell=>(refine' K1.DF.mk ?a ?l ?c ?k;(case a=>k_is);(case l=>k_is);(case c=>k_is);(case k=>k_is)))
  (case d_law_board=>(refine' K1.DF.mk ?a ?l ?c ?k;(case a=>k_is);(case l=>k_is);(case c=>k_is);(case k=>k_is)))
  (case d_law_cell_in=>(refine' K1.DF.mk ?a ?l ?c ?k;(case a=>k_is);(case l=>k_is);(case c=>k_is);(case k=>k_is)))
  (case d_need_board=>(refine' K1.DF.mk ?a ?l ?c ?k;(case a=>k_is);(case l=>k_is);(case c=>k_is);(case k=>k_is)))
  (case d_cells=>(refine' K1.DF.mk ?a ?l ?c ?k;(case a=>k_is);(case l=>k_is);(case c=>k_is);(case k=>k_is)))
  (case d_letter_at=>(refine' K1.DF.mk ?a ?l ?c ?k;(case a=>k_is);(case l=>k_is);(case c=>k_is);(case k=>k_is)))
  (case d_with_letter=>(refine' K1.DF.mk ?a ?l ?c ?k;(case a=>k_is);(case l=>k_is);(case c=>k_is);(case k=>k_is)))
  (case d_beside=>(refine' K1.DF.mk ?a ?l ?c ?k;(case a=>k_is);(case l=>k_is);(case c=>k_is);(case k=>k_is)))
  (case d_turned=>(refine' K1.DF.mk ?a ?l ?c ?k;(case a=>k_is);(case l=>k_is);(case c=>k_is);(case k=>k_is)))
  (case d_mirrored=>(refine' K1.DF.mk ?a ?l ?c ?k;(case a=>k_is);(case l=>k_is);(case c=>k_is);(case k=>k_is)))
  (case d_stacked=>(refine' K1.DF.mk ?a ?l ?c ?k;(case a=>k_is);(case l=>k_is);(case c=>k_is);(case k=>k_is)))
  (case d_letters=>(refine' K1.DF.mk ?a ?l ?c ?k;(case a=>k_is);(case l=>k_is);(case c=>k_is);(case k=>k_is)))
  (case d_law_is_put=>(refine' K1.DF.mk ?a ?l ?c ?k;(case a=>k_is);(case l=>k_is);(case c=>k_is);(case k=>k_is)))
  (case a_law_k03=>k_is)
  (case l_law_k03=>k_is)
  (case c_law_k03=>k_is)
  (case k_law_k03=>k_is)
  (case z_len=>k_is)
  (case z_isinstance=>k_is)
  (case z_all=>k_is)
  (case z_abs=>k_is)
  (case z_max=>k_is)
  (case z_min=>k_is)
  (case z_sum=>k_is)
  (case z_range=>k_is)
  (case z_str=>k_is)
  (case z_int=>k_is)
  (case z_bool=>k_is)
  (case z_tuple=>k_is)
  (case z_list=>k_is)
  (case z_set=>k_is)
  (case z_sorted=>k_is)
  (case z_reversed=>k_is)
  (case y_LETTERS=>k_is)
  (case y_MOST_ROWS=>k_is)
  (case y_MOST_COLUMNS=>k_is)
