import PyProof.Rows.All
import Wide.All
import OpenK.AllK
import Wide.FinOn
import Lean
import PyProof.EqAt
import PyProof.EqKinds
import PyProof.TupleCall
import KE.KTryMore
import KE.KRevIter
import KE.KSortTup
import KE.KDictSum
import KE.KRevSl
import PyProof.Rows.TupDisplay
import PyProof.EnumFor
import PyProof.EnumMake
import PyProof.EnumStmt
import PyProof.DictUpdate
import PyProof.AttrMissSeq
import KE.KDictOf
import PyProof.ListStr
import PyProof.SetScanFacts
import PyProof.Rows.SetFrom
import PyProof.TupleKey
import KE.LcSums
import PyProof.ListRange
import PyProof.SeqI3
import PySem.Challenge.RW_cellpatches_k61_whole_scanning
set_option Elab.async false
set_option linter.all false
set_option maxRecDepth 100000
namespace L2
open PySem
def d4(s:Stmt):Arguments:=match s with
 | .FunctionDef _ a _ _ _ _ _ _ _ _=>a
 |_=>{posonlyargs:=[],args:=[],vararg:=none,kwonlyargs:=[],kw_defaults:=[],kwarg:=none,defaults:=[]}
def bf(s:Stmt):List Stmt:=match s with
 | .FunctionDef _ _ b _ _ _ _ _ _ _=>b
 |_=>[]
def af(s:Stmt):Scope:=match s with
 | .FunctionDef _ _ _ _ _ _ sc _ _ _=>sc
 |_=>{kind:= .function,names:=[],isGenerator:=false,isCoroutine:=false}
end L2
namespace K1
open PySem PySem.Spec
def top(i:Nat):Stmt:=PySem.Challenge.pw_cellpatches_k61_whole_scanning.main.body.getD i (.Pass ⟨0,0,0,0⟩)
abbrev hS(s:String)(t:Tok):Value:= .str (Str.ofString s) t
abbrev hE(P:Params)(s:String)(t:Tok)(v:Value):DictEntry:={hash:=PyData.keyHash P (Str.ofString s),key:=hS s t,val:=v}
abbrev hT(xs:Array Value):Obj:={cls:= .type "tuple",data:=Data.seq xs}
abbrev hF(s:String)(t:Stmt)(m:Value)(c:Addr):Obj:={cls:= .type "function",data:=Data.func {name:=Str.ofString s,qualname:=Str.ofString s,params:=L2.d4 t,body:=FuncBody.stmts (L2.bf t),scope:=L2.af t,globals:=3,closure:=[],defaults:= .none,kwdefaults:= .none,pyModule:=m,code:= .ref c} }
def ni:Params→W.Frag:=fun P=>(nat_lit 2,{cls:= .none,data:=Data.dict #[]})::
 (nat_lit 3,{cls:= .type "dict",data:=Data.dict #[hE P "__name__" 165 (hS "law_cellpatches_k61_whole_scanning" 530),hE P "__doc__" 166 .none,hE P "__package__" 167 .none,hE P "__loader__" 168 (.builtin "__main__.__loader__#opaque"),hE P "__spec__" 169 .none,hE P "__annotations__" 170 (.ref 6),hE P "__builtins__" 171 (.ref 4),hE P "__file__" 173 (hS "/claim/cut.py" 172),hE P "__cached__" 174 .none,hE P "PatchError" 206 (.ref 24),hE P "NoBoard" 222 (.ref 37),hE P "NoWays" 238 (.ref 49),hE P "NoCell" 254 (.ref 61),hE P "NoFit" 270 (.ref 73),hE P "LETTERS" 274 (hS "abcdef" 273),hE P "MOST_ROWS" 276 (.int 8 275),hE P "MOST_COLUMNS" 278 (.int 8 277),hE P "is_whole" 285 (.ref 82),hE P "is_letter" 292 (.ref 89),hE P "is_row" 298 (.ref 94),hE P "is_board" 304 (.ref 99),hE P "is_cell" 312 (.ref 106),hE P "need_board" 319 (.ref 113),hE P "need_cell" 327 (.ref 120),hE P "need_ways" 334 (.ref 127),hE P "need_fit" 342 (.ref 134),hE P "cells_of_row" 348 (.ref 139),hE P "all_cells" 357 (.ref 146),hE P "letter_of" 365 (.ref 153),hE P "are_next" 376 (.ref 160),hE P "next_cells" 388 (.ref 167),hE P "keyed" 397 (.ref 174),hE P "letter_at" 405 (.ref 181),hE P "mirrored" 411 (.ref 186),hE P "stacked" 419 (.ref 193),hE P "like_cells" 427 (.ref 198),hE P "steps_back" 441 (.ref 205),hE P "all_patches" 453 (.ref 212),hE P "numbers_of" 464 (.ref 219),hE P "patches" 472 (.ref 226),hE P "how_many" 480 (.ref 233),hE P "need_two_boards" 491 (.ref 240),hE P "meets_below" 500 (.ref 247),hE P "seam" 514 (.ref 254),hE P "how_many_together" 523 (.ref 261),hE P "sizes_together" 529 (.ref 266),hE P "_law_cell" 539 (.ref 273),hE P "_law_drawn" 549 (.ref 280),hE P "_law_board" 555 (.ref 285),hE P "_law_cells" 561 (.ref 290),hE P "_law_beside" 576 (.ref 297),hE P "law" 582 (.ref 302)] 52})::
 (nat_lit 15,hT #[.type "ValueError"])::
 (nat_lit 22,hT #[])::
 (nat_lit 23,{cls:= .type "dict",data:=Data.dict #[hE P "__module__" 196 (hS "cellpatches.errors" 187),hE P "__firstlineno__" 200 (.int 2 199),hE P "__static_attributes__" 201 (.ref 22),hE P "__weakref__" 203 (.ref 25),hE P "__doc__" 204 .none] 3})::
 (nat_lit 24,{cls:= .type "type",data:=Data.cls {name:=Str.ofString "PatchError",bases:=[.type "ValueError"],mro:=[.ref 24, .type "ValueError", .type "Exception", .type "BaseException", .type "object"],ns:=23,qualname:=Str.ofString "PatchError",subclasses:=[.ref 37, .ref 49, .ref 61, .ref 73]},slots:= #[some (.ref 15),none,some (hS "PatchError" 189),some (hS "PatchError" 197),some (.builtin "ValueError.__new__"),some (.bool true)]})::
 (nat_lit 25,{cls:= .type "getset_descriptor",data:=Data.fields #[hS "__weakref__" 202, .ref 24, .builtin "ExceptionGroup.__weakref__", .none]})::
 (nat_lit 28,hT #[.ref 24])::
 (nat_lit 35,hT #[])::
 (nat_lit 36,{cls:= .type "dict",data:=Data.dict #[hE P "__module__" 214 (hS "cellpatches.errors" 187),hE P "__firstlineno__" 218 (.int 4 217),hE P "__static_attributes__" 219 (.ref 35),hE P "__doc__" 220 .none] 2})::
 (nat_lit 37,{cls:= .type "type",data:=Data.cls {name:=Str.ofString "NoBoard",bases:=[.ref 24],mro:=[.ref 37, .ref 24, .type "ValueError", .type "Exception", .type "BaseException", .type "object"],ns:=36,qualname:=Str.ofString "NoBoard"},slots:= #[some (.ref 28),none,some (hS "NoBoard" 207),some (hS "NoBoard" 215),some (.builtin "ValueError.__new__"),some (.bool true)]})::
 (nat_lit 40,hT #[.ref 24])::
 (nat_lit 47,hT #[])::
 (nat_lit 48,{cls:= .type "dict",data:=Data.dict #[hE P "__module__" 230 (hS "cellpatches.errors" 187),hE P "__firstlineno__" 234 (.int 6 233),hE P "__static_attributes__" 235 (.ref 47),hE P "__doc__" 236 .none] 2})::
 (nat_lit 49,{cls:= .type "type",data:=Data.cls {name:=Str.ofString "NoWays",bases:=[.ref 24],mro:=[.ref 49, .ref 24, .type "ValueError", .type "Exception", .type "BaseException", .type "object"],ns:=48,qualname:=Str.ofString "NoWays"},slots:= #[some (.ref 40),none,some (hS "NoWays" 223),some (hS "NoWays" 231),some (.builtin "ValueError.__new__"),some (.bool true)]})::
 (nat_lit 52,hT #[.ref 24])::
 (nat_lit 59,hT #[])::
 (nat_lit 60,{cls:= .type "dict",data:=Data.dict #[hE P "__module__" 246 (hS "cellpatches.errors" 187),hE P "__firstlineno__" 250 (.int 8 249),hE P "__static_attributes__" 251 (.ref 59),hE P "__doc__" 252 .none] 2})::
 (nat_lit 61,{cls:= .type "type",data:=Data.cls {name:=Str.ofString "NoCell",bases:=[.ref 24],mro:=[.ref 61, .ref 24, .type "ValueError", .type "Exception", .type "BaseException", .type "object"],ns:=60,qualname:=Str.ofString "NoCell"},slots:= #[some (.ref 52),none,some (hS "NoCell" 239),some (hS "NoCell" 247),some (.builtin "ValueError.__new__"),some (.bool true)]})::
 (nat_lit 64,hT #[.ref 24])::
 (nat_lit 71,hT #[])::
 (nat_lit 72,{cls:= .type "dict",data:=Data.dict #[hE P "__module__" 262 (hS "cellpatches.errors" 187),hE P "__firstlineno__" 266 (.int 10 265),hE P "__static_attributes__" 267 (.ref 71),hE P "__doc__" 268 .none] 2})::
 (nat_lit 73,{cls:= .type "type",data:=Data.cls {name:=Str.ofString "NoFit",bases:=[.ref 24],mro:=[.ref 73, .ref 24, .type "ValueError", .type "Exception", .type "BaseException", .type "object"],ns:=72,qualname:=Str.ofString "NoFit"},slots:= #[some (.ref 64),none,some (hS "NoFit" 255),some (hS "NoFit" 263),some (.builtin "ValueError.__new__"),some (.bool true)]})::
 (nat_lit 76,hT #[])::
 (nat_lit 78,hT #[hS "thing" 282])::
 (nat_lit 79,hT #[])::
 (nat_lit 81,{cls:= .type "code",data:=Data.fields #[hS "is_whole" 279,hS "is_whole" 280,hS "/claim/cut.py" 281, .int 16 0, .int 1 0, .int 0 0, .int 0 0, .int 3 0, .ref 76, .bool true, .int 181 0, .ref 77, .none, .ref 78, .ref 79, .ref 80, .int 283 0, .int 16 0,hS "/claim/cut.py" 284]})::
 (nat_lit 82,hF "is_whole" (top 10) (hS "cellpatches.boards" 271) 81)::
 (nat_lit 83,hT #[])::
 (nat_lit 85,hT #[hS "thing" 289])::
 (nat_lit 86,hT #[])::
 (nat_lit 88,{cls:= .type "code",data:=Data.fields #[hS "is_letter" 286,hS "is_letter" 287,hS "/claim/cut.py" 288, .int 18 0, .int 1 0, .int 0 0, .int 0 0, .int 3 0, .ref 83, .bool true, .int 181 0, .ref 84, .none, .ref 85, .ref 86, .ref 87, .int 290 0, .int 18 0,hS "/claim/cut.py" 291]})::
 (nat_lit 89,hF "is_letter" (top 11) (hS "cellpatches.boards" 271) 88)::
 (nat_lit 90,hT #[])::
 (nat_lit 93,{cls:= .type "code",data:=Data.fields #[hS "is_row" 293,hS "is_row" 294,hS "/claim/cut.py" 295, .int 20 0, .int 1 0, .int 0 0, .int 0 0, .int 3 0, .ref 90, .bool true, .int 181 0, .ref 91, .none, .none, .none, .ref 92, .int 296 0, .int 20 0,hS "/claim/cut.py" 297]})::
 (nat_lit 94,hF "is_row" (top 12) (hS "cellpatches.boards" 271) 93)::
 (nat_lit 95,hT #[])::
 (nat_lit 98,{cls:= .type "code",data:=Data.fields #[hS "is_board" 299,hS "is_board" 300,hS "/claim/cut.py" 301, .int 24 0, .int 1 0, .int 0 0, .int 0 0, .int 3 0, .ref 95, .bool true, .int 181 0, .ref 96, .none, .none, .none, .ref 97, .int 302 0, .int 24 0,hS "/claim/cut.py" 303]})::
 (nat_lit 99,hF "is_board" (top 13) (hS "cellpatches.boards" 271) 98)::
 (nat_lit 100,hT #[])::
 (nat_lit 102,hT #[hS "board" 308,hS "thing" 309])::
 (nat_lit 103,hT #[])::
 (nat_lit 105,{cls:= .type "code",data:=Data.fields #[hS "is_cell" 305,hS "is_cell" 306,hS "/claim/cut.py" 307, .int 30 0, .int 2 0, .int 0 0, .int 0 0, .int 3 0, .ref 100, .bool true, .int 181 0, .ref 101, .none, .ref 102, .ref 103, .ref 104, .int 310 0, .int 30 0,hS "/claim/cut.py" 311]})::
 (nat_lit 106,hF "is_cell" (top 14) (hS "cellpatches.boards" 271) 105)::
 (nat_lit 107,hT #[])::
 (nat_lit 109,hT #[hS "thing" 316])::
 (nat_lit 110,hT #[])::
 (nat_lit 112,{cls:= .type "code",data:=Data.fields #[hS "need_board" 313,hS "need_board" 314,hS "/claim/cut.py" 315, .int 36 0, .int 1 0, .int 0 0, .int 0 0, .int 3 0, .ref 107, .bool true, .int 181 0, .ref 108, .none, .ref 109, .ref 110, .ref 111, .int 317 0, .int 36 0,hS "/claim/cut.py" 318]})::
 (nat_lit 113,hF "need_board" (top 15) (hS "cellpatches.boards" 271) 112)::
 (nat_lit 114,hT #[])::
 (nat_lit 116,hT #[hS "board" 323,hS "thing" 324])::
 (nat_lit 117,hT #[])::
 (nat_lit 119,{cls:= .type "code",data:=Data.fields #[hS "need_cell" 320,hS "need_cell" 321,hS "/claim/cut.py" 322, .int 39 0, .int 2 0, .int 0 0, .int 0 0, .int 3 0, .ref 114, .bool true, .int 181 0, .ref 115, .none, .ref 116, .ref 117, .ref 118, .int 325 0, .int 39 0,hS "/claim/cut.py" 326]})::
 (nat_lit 120,hF "need_cell" (top 16) (hS "cellpatches.boards" 271) 119)::
 (nat_lit 121,hT #[])::
 (nat_lit 123,hT #[hS "thing" 331])::
 (nat_lit 124,hT #[])::
 (nat_lit 126,{cls:= .type "code",data:=Data.fields #[hS "need_ways" 328,hS "need_ways" 329,hS "/claim/cut.py" 330, .int 42 0, .int 1 0, .int 0 0, .int 0 0, .int 3 0, .ref 121, .bool true, .int 181 0, .ref 122, .none, .ref 123, .ref 124, .ref 125, .int 332 0, .int 42 0,hS "/claim/cut.py" 333]})::
 (nat_lit 127,hF "need_ways" (top 17) (hS "cellpatches.boards" 271) 126)::
 (nat_lit 128,hT #[])::
 (nat_lit 130,hT #[hS "one" 338,hS "other" 339])::
 (nat_lit 131,hT #[])::
 (nat_lit 133,{cls:= .type "code",data:=Data.fields #[hS "need_fit" 335,hS "need_fit" 336,hS "/claim/cut.py" 337, .int 45 0, .int 2 0, .int 0 0, .int 0 0, .int 3 0, .ref 128, .bool true, .int 181 0, .ref 129, .none, .ref 130, .ref 131, .ref 132, .int 340 0, .int 45 0,hS "/claim/cut.py" 341]})::
 (nat_lit 134,hF "need_fit" (top 18) (hS "cellpatches.boards" 271) 133)::
 (nat_lit 135,hT #[])::
 (nat_lit 138,{cls:= .type "code",data:=Data.fields #[hS "cells_of_row" 343,hS "cells_of_row" 344,hS "/claim/cut.py" 345, .int 50 0, .int 2 0, .int 0 0, .int 0 0, .int 3 0, .ref 135, .bool true, .int 181 0, .ref 136, .none, .none, .none, .ref 137, .int 346 0, .int 50 0,hS "/claim/cut.py" 347]})::
 (nat_lit 139,hF "cells_of_row" (top 19) (hS "cellpatches.boards" 271) 138)::
 (nat_lit 140,hT #[])::
 (nat_lit 142,hT #[hS "board" 352,hS "found" 353,hS "row" 354])::
 (nat_lit 143,hT #[])::
 (nat_lit 145,{cls:= .type "code",data:=Data.fields #[hS "all_cells" 349,hS "all_cells" 350,hS "/claim/cut.py" 351, .int 52 0, .int 1 0, .int 0 0, .int 0 0, .int 3 0, .ref 140, .bool true, .int 181 0, .ref 141, .none, .ref 142, .ref 143, .ref 144, .int 355 0, .int 52 0,hS "/claim/cut.py" 356]})::
 (nat_lit 146,hF "all_cells" (top 20) (hS "cellpatches.boards" 271) 145)::
 (nat_lit 147,hT #[])::
 (nat_lit 149,hT #[hS "board" 361,hS "cell" 362])::
 (nat_lit 150,hT #[])::
 (nat_lit 152,{cls:= .type "code",data:=Data.fields #[hS "letter_of" 358,hS "letter_of" 359,hS "/claim/cut.py" 360, .int 57 0, .int 2 0, .int 0 0, .int 0 0, .int 3 0, .ref 147, .bool true, .int 181 0, .ref 148, .none, .ref 149, .ref 150, .ref 151, .int 363 0, .int 57 0,hS "/claim/cut.py" 364]})::
 (nat_lit 153,hF "letter_of" (top 21) (hS "cellpatches.boards" 271) 152)::
 (nat_lit 154,hT #[])::
 (nat_lit 156,hT #[hS "one" 369,hS "other" 370,hS "ways" 371,hS "down" 372,hS "along" 373])::
 (nat_lit 157,hT #[])::
 (nat_lit 159,{cls:= .type "code",data:=Data.fields #[hS "are_next" 366,hS "are_next" 367,hS "/claim/cut.py" 368, .int 59 0, .int 3 0, .int 0 0, .int 0 0, .int 3 0, .ref 154, .bool true, .int 181 0, .ref 155, .none, .ref 156, .ref 157, .ref 158, .int 374 0, .int 59 0,hS "/claim/cut.py" 375]})::
 (nat_lit 160,hF "are_next" (top 22) (hS "cellpatches.boards" 271) 159)::
 (nat_lit 161,hT #[])::
 (nat_lit 163,hT #[hS "board" 380,hS "cell" 381,hS "ways" 382,hS "found" 383,hS "row" 384,hS "column" 385])::
 (nat_lit 164,hT #[])::
 (nat_lit 166,{cls:= .type "code",data:=Data.fields #[hS "next_cells" 377,hS "next_cells" 378,hS "/claim/cut.py" 379, .int 65 0, .int 3 0, .int 0 0, .int 0 0, .int 3 0, .ref 161, .bool true, .int 181 0, .ref 162, .none, .ref 163, .ref 164, .ref 165, .int 386 0, .int 65 0,hS "/claim/cut.py" 387]})::
 (nat_lit 167,hF "next_cells" (top 23) (hS "cellpatches.boards" 271) 166)::
 (nat_lit 168,hT #[])::
 (nat_lit 170,hT #[hS "things" 392,hS "found" 393,hS "thing" 394])::
 (nat_lit 171,hT #[])::
 (nat_lit 173,{cls:= .type "code",data:=Data.fields #[hS "keyed" 389,hS "keyed" 390,hS "/claim/cut.py" 391, .int 72 0, .int 1 0, .int 0 0, .int 0 0, .int 3 0, .ref 168, .bool true, .int 181 0, .ref 169, .none, .ref 170, .ref 171, .ref 172, .int 395 0, .int 72 0,hS "/claim/cut.py" 396]})::
 (nat_lit 174,hF "keyed" (top 24) (hS "cellpatches.boards" 271) 173)::
 (nat_lit 175,hT #[])::
 (nat_lit 177,hT #[hS "board" 401,hS "cell" 402])::
 (nat_lit 178,hT #[])::
 (nat_lit 180,{cls:= .type "code",data:=Data.fields #[hS "letter_at" 398,hS "letter_at" 399,hS "/claim/cut.py" 400, .int 77 0, .int 2 0, .int 0 0, .int 0 0, .int 3 0, .ref 175, .bool true, .int 181 0, .ref 176, .none, .ref 177, .ref 178, .ref 179, .int 403 0, .int 77 0,hS "/claim/cut.py" 404]})::
 (nat_lit 181,hF "letter_at" (top 25) (hS "cellpatches.boards" 271) 180)::
 (nat_lit 182,hT #[])::
 (nat_lit 185,{cls:= .type "code",data:=Data.fields #[hS "mirrored" 406,hS "mirrored" 407,hS "/claim/cut.py" 408, .int 81 0, .int 1 0, .int 0 0, .int 0 0, .int 3 0, .ref 182, .bool true, .int 181 0, .ref 183, .none, .none, .none, .ref 184, .int 409 0, .int 81 0,hS "/claim/cut.py" 410]})::
 (nat_lit 186,hF "mirrored" (top 26) (hS "cellpatches.boards" 271) 185)::
 (nat_lit 187,hT #[])::
 (nat_lit 189,hT #[hS "one" 415,hS "other" 416])::
 (nat_lit 190,hT #[])::
 (nat_lit 192,{cls:= .type "code",data:=Data.fields #[hS "stacked" 412,hS "stacked" 413,hS "/claim/cut.py" 414, .int 84 0, .int 2 0, .int 0 0, .int 0 0, .int 3 0, .ref 187, .bool true, .int 181 0, .ref 188, .none, .ref 189, .ref 190, .ref 191, .int 417 0, .int 84 0,hS "/claim/cut.py" 418]})::
 (nat_lit 193,hF "stacked" (top 27) (hS "cellpatches.boards" 271) 192)::
 (nat_lit 194,hT #[])::
 (nat_lit 197,{cls:= .type "code",data:=Data.fields #[hS "like_cells" 422,hS "like_cells" 423,hS "/claim/cut.py" 424, .int 90 0, .int 3 0, .int 0 0, .int 0 0, .int 3 0, .ref 194, .bool true, .int 181 0, .ref 195, .none, .none, .none, .ref 196, .int 425 0, .int 90 0,hS "/claim/cut.py" 426]})::
 (nat_lit 198,hF "like_cells" (top 29) (hS "cellpatches.patches" 420) 197)::
 (nat_lit 199,hT #[])::
 (nat_lit 201,hT #[hS "board" 431,hS "start" 432,hS "ways" 433,hS "back" 434,hS "ring" 435,hS "further" 436,hS "cell" 437,hS "near" 438])::
 (nat_lit 202,hT #[])::
 (nat_lit 204,{cls:= .type "code",data:=Data.fields #[hS "steps_back" 428,hS "steps_back" 429,hS "/claim/cut.py" 430, .int 93 0, .int 3 0, .int 0 0, .int 0 0, .int 3 0, .ref 199, .bool true, .int 181 0, .ref 200, .none, .ref 201, .ref 202, .ref 203, .int 439 0, .int 93 0,hS "/claim/cut.py" 440]})::
 (nat_lit 205,hF "steps_back" (top 30) (hS "cellpatches.patches" 420) 204)::
 (nat_lit 206,hT #[])::
 (nat_lit 208,hT #[hS "board" 445,hS "ways" 446,hS "found" 447,hS "seen" 448,hS "cell" 449,hS "patch" 450])::
 (nat_lit 209,hT #[])::
 (nat_lit 211,{cls:= .type "code",data:=Data.fields #[hS "all_patches" 442,hS "all_patches" 443,hS "/claim/cut.py" 444, .int 105 0, .int 2 0, .int 0 0, .int 0 0, .int 3 0, .ref 206, .bool true, .int 181 0, .ref 207, .none, .ref 208, .ref 209, .ref 210, .int 451 0, .int 105 0,hS "/claim/cut.py" 452]})::
 (nat_lit 212,hF "all_patches" (top 31) (hS "cellpatches.patches" 420) 211)::
 (nat_lit 213,hT #[])::
 (nat_lit 215,hT #[hS "found" 457,hS "numbers" 458,hS "number" 459,hS "patch" 460,hS "cell" 461])::
 (nat_lit 216,hT #[])::
 (nat_lit 218,{cls:= .type "code",data:=Data.fields #[hS "numbers_of" 454,hS "numbers_of" 455,hS "/claim/cut.py" 456, .int 114 0, .int 1 0, .int 0 0, .int 0 0, .int 3 0, .ref 213, .bool true, .int 181 0, .ref 214, .none, .ref 215, .ref 216, .ref 217, .int 462 0, .int 114 0,hS "/claim/cut.py" 463]})::
 (nat_lit 219,hF "numbers_of" (top 32) (hS "cellpatches.patches" 420) 218)::
 (nat_lit 220,hT #[])::
 (nat_lit 222,hT #[hS "board" 468,hS "ways" 469])::
 (nat_lit 223,hT #[])::
 (nat_lit 225,{cls:= .type "code",data:=Data.fields #[hS "patches" 465,hS "patches" 466,hS "/claim/cut.py" 467, .int 120 0, .int 2 0, .int 0 0, .int 0 0, .int 3 0, .ref 220, .bool true, .int 181 0, .ref 221, .none, .ref 222, .ref 223, .ref 224, .int 470 0, .int 120 0,hS "/claim/cut.py" 471]})::
 (nat_lit 226,hF "patches" (top 33) (hS "cellpatches.patches" 420) 225)::
 (nat_lit 227,hT #[])::
 (nat_lit 229,hT #[hS "board" 476,hS "ways" 477])::
 (nat_lit 230,hT #[])::
 (nat_lit 232,{cls:= .type "code",data:=Data.fields #[hS "how_many" 473,hS "how_many" 474,hS "/claim/cut.py" 475, .int 124 0, .int 2 0, .int 0 0, .int 0 0, .int 3 0, .ref 227, .bool true, .int 181 0, .ref 228, .none, .ref 229, .ref 230, .ref 231, .int 478 0, .int 124 0,hS "/claim/cut.py" 479]})::
 (nat_lit 233,hF "how_many" (top 34) (hS "cellpatches.patches" 420) 232)::
 (nat_lit 234,hT #[])::
 (nat_lit 236,hT #[hS "one" 486,hS "other" 487,hS "ways" 488])::
 (nat_lit 237,hT #[])::
 (nat_lit 239,{cls:= .type "code",data:=Data.fields #[hS "need_two_boards" 483,hS "need_two_boards" 484,hS "/claim/cut.py" 485, .int 129 0, .int 3 0, .int 0 0, .int 0 0, .int 3 0, .ref 234, .bool true, .int 181 0, .ref 235, .none, .ref 236, .ref 237, .ref 238, .int 489 0, .int 129 0,hS "/claim/cut.py" 490]})::
 (nat_lit 240,hF "need_two_boards" (top 36) (hS "cellpatches.scanning" 481) 239)::
 (nat_lit 241,hT #[])::
 (nat_lit 243,hT #[hS "above" 495,hS "below" 496,hS "ways" 497])::
 (nat_lit 244,hT #[])::
 (nat_lit 246,{cls:= .type "code",data:=Data.fields #[hS "meets_below" 492,hS "meets_below" 493,hS "/claim/cut.py" 494, .int 134 0, .int 3 0, .int 0 0, .int 0 0, .int 3 0, .ref 241, .bool true, .int 181 0, .ref 242, .none, .ref 243, .ref 244, .ref 245, .int 498 0, .int 134 0,hS "/claim/cut.py" 499]})::
 (nat_lit 247,hF "meets_below" (top 37) (hS "cellpatches.scanning" 481) 246)::
 (nat_lit 248,hT #[])::
 (nat_lit 250,hT #[hS "one" 504,hS "other" 505,hS "ways" 506,hS "numbers_above" 507,hS "numbers_below" 508,hS "pairs" 509,hS "above" 510,hS "below" 511])::
 (nat_lit 251,hT #[])::
 (nat_lit 253,{cls:= .type "code",data:=Data.fields #[hS "seam" 501,hS "seam" 502,hS "/claim/cut.py" 503, .int 136 0, .int 3 0, .int 0 0, .int 0 0, .int 3 0, .ref 248, .bool true, .int 181 0, .ref 249, .none, .ref 250, .ref 251, .ref 252, .int 512 0, .int 136 0,hS "/claim/cut.py" 513]})::
 (nat_lit 254,hF "seam" (top 38) (hS "cellpatches.scanning" 481) 253)::
 (nat_lit 255,hT #[])::
 (nat_lit 257,hT #[hS "one" 518,hS "other" 519,hS "ways" 520])::
 (nat_lit 258,hT #[])::
 (nat_lit 260,{cls:= .type "code",data:=Data.fields #[hS "how_many_together" 515,hS "how_many_together" 516,hS "/claim/cut.py" 517, .int 146 0, .int 3 0, .int 0 0, .int 0 0, .int 3 0, .ref 255, .bool true, .int 181 0, .ref 256, .none, .ref 257, .ref 258, .ref 259, .int 521 0, .int 146 0,hS "/claim/cut.py" 522]})::
 (nat_lit 261,hF "how_many_together" (top 39) (hS "cellpatches.scanning" 481) 260)::
 (nat_lit 262,hT #[])::
 (nat_lit 265,{cls:= .type "code",data:=Data.fields #[hS "sizes_together" 524,hS "sizes_together" 525,hS "/claim/cut.py" 526, .int 149 0, .int 3 0, .int 0 0, .int 0 0, .int 3 0, .ref 262, .bool true, .int 181 0, .ref 263, .none, .none, .none, .ref 264, .int 527 0, .int 149 0,hS "/claim/cut.py" 528]})::
 (nat_lit 266,hF "sizes_together" (top 40) (hS "cellpatches.scanning" 481) 265)::
 (nat_lit 267,hT #[])::
 (nat_lit 269,hT #[hS "_law_script" 535,hS "_law_k" 536])::
 (nat_lit 270,hT #[])::
 (nat_lit 272,{cls:= .type "code",data:=Data.fields #[hS "_law_cell" 532,hS "_law_cell" 533,hS "/claim/cut.py" 534, .int 153 0, .int 2 0, .int 0 0, .int 0 0, .int 3 0, .ref 267, .bool true, .int 181 0, .ref 268, .none, .ref 269, .ref 270, .ref 271, .int 537 0, .int 153 0,hS "/claim/cut.py" 538]})::
 (nat_lit 273,hF "_law_cell" (top 42) (hS "law_cellpatches_k61_whole_scanning" 530) 272)::
 (nat_lit 274,hT #[])::
 (nat_lit 276,hT #[hS "_law_script" 543,hS "_law_k" 544,hS "_law_many" 545,hS "_law_cell_here" 546])::
 (nat_lit 277,hT #[])::
 (nat_lit 279,{cls:= .type "code",data:=Data.fields #[hS "_law_drawn" 540,hS "_law_drawn" 541,hS "/claim/cut.py" 542, .int 157 0, .int 3 0, .int 0 0, .int 0 0, .int 3 0, .ref 274, .bool true, .int 181 0, .ref 275, .none, .ref 276, .ref 277, .ref 278, .int 547 0, .int 157 0,hS "/claim/cut.py" 548]})::
 (nat_lit 280,hF "_law_drawn" (top 43) (hS "law_cellpatches_k61_whole_scanning" 530) 279)::
 (nat_lit 281,hT #[])::
 (nat_lit 284,{cls:= .type "code",data:=Data.fields #[hS "_law_board" 550,hS "_law_board" 551,hS "/claim/cut.py" 552, .int 161 0, .int 3 0, .int 0 0, .int 0 0, .int 3 0, .ref 281, .bool true, .int 181 0, .ref 282, .none, .none, .none, .ref 283, .int 553 0, .int 161 0,hS "/claim/cut.py" 554]})::
 (nat_lit 285,hF "_law_board" (top 44) (hS "law_cellpatches_k61_whole_scanning" 530) 284)::
 (nat_lit 298,hT #[])::
 (nat_lit 301,{cls:= .type "code",data:=Data.fields #[hS "law" 577,hS "law" 578,hS "/claim/cut.py" 579, .int 185 0, .int 1 0, .int 0 0, .int 0 0, .int 3 0, .ref 298, .bool true, .int 181 0, .ref 299, .none, .none, .none, .ref 300, .int 580 0, .int 185 0,hS "/claim/cut.py" 581]})::
 (nat_lit 302,hF "law" (top 47) (hS "law_cellpatches_k61_whole_scanning" 530) 301)::[]
def nh:List Nat:=[2,3,15,22,23,24,25,28,35,36,37,40,47,48,49,52,59,60,61,64,71,72,73,76,78,79,81,82,83,85,86,88,89,90,93,94,95,98,99,100,102,103,105,106,107,109,110,112,113,114,116,117,119,120,121,123,124,126,127,128,130,131,133,134,135,138,139,140,142,143,145,146,147,149,150,152,153,154,156,157,159,160,161,163,164,166,167,168,170,171,173,174,175,177,178,180,181,182,185,186,187,189,190,192,193,194,197,198,199,201,202,204,205,206,208,209,211,212,213,215,216,218,219,220,222,223,225,226,227,229,230,232,233,234,236,237,239,240,241,243,244,246,247,248,250,251,253,254,255,257,258,260,261,262,265,266,267,269,270,272,273,274,276,277,279,280,281,284,285,298,301,302]
def vB:Program:={PySem.Challenge.pw_cellpatches_k61_whole_scanning with main:={PySem.Challenge.pw_cellpatches_k61_whole_scanning.main with body:=[top 1,top 2,top 3,top 4,top 5,top 7,top 8,top 9,top 10,top 11,top 12,top 13,top 14,top 15,top 16,top 17,top 18,top 19,top 20,top 21,top 22,top 23,top 24,top 25,top 26,top 27,top 29,top 30,top 31,top 32,top 33,top 34,top 36,top 37,top 38,top 39,top 40,top 42,top 43,top 44,top 45,top 46,top 47]} }
open PySem.W PyProof.Rows in
set_option maxHeartbeats 0 in
theorem Ja:LeftO PySem.Challenge.rw_cellpatches_k61_whole_scanning.row.prog vB [] (fun s=>xlAt vB [] s&&recOk PySem.Challenge.rw_cellpatches_k61_whole_scanning.row.records s) (kHook ni nh (fun _=>by kernel_rfl)).obs (kHook ni nh (fun _=>by kernel_rfl)).val 4446:=fun w=>by kernel_rfl
end K1
namespace L2
open PySem PySem.Spec PyProof.Rows
abbrev Key:=Sum Int Str
def nA:Key→Value→Bool
 | .inl k,v=>Value.isInt k v
 | .inr x,v=>Value.isStrOf x v
def Jx(w:World):Key→Int
 | .inl k=>hashInt k
 | .inr x=>hashStr w x
theorem bD:∀{k:Key}{v:Value},nA k v=true→(∃i t,k=Sum.inl i∧v=Value.int i t)∨(∃x t,k=Sum.inr x∧v=Value.str x t)
 | .inl i,v,h=>by
   obtain⟨t,e⟩:=Value.isInt_shape (k:=i) (v:=v) h
   exact .inl ⟨i,t,rfl,e⟩
 | .inr x,v,h=>by
   obtain⟨t,e⟩:=Value.isStrOf_shape (x:=x) (v:=v) h
   exact .inr ⟨x,t,rfl,e⟩
theorem zf(i:Int)(t:Tok):nA (.inl i) (.int i t)=true:=by simp[nA,Value.isInt]
theorem zg(x:Str)(t:Tok):nA (.inr x) (.str x t)=true:=by simp[nA,Value.isStrOf]
theorem GV(a b:Int):decide ((Sum.inl a:Key)=Sum.inl b)=(a==b):=by
 by_cases e:a=b
 ·subst e;simp
 ·have h:¬(Sum.inl a:Key)=Sum.inl b:=fun q=>e (Sum.inl.inj q)
  rw[decide_eq_false h]
  exact(beq_eq_false_iff_ne.mpr e).symm
theorem GY(a b:Str):decide ((Sum.inr a:Key)=Sum.inr b)=decide (a=b):=by
 by_cases e:a=b
 ·subst e;simp
 ·have h:¬(Sum.inr a:Key)=Sum.inr b:=fun q=>e (Sum.inr.inj q)
  rw[decide_eq_false h,decide_eq_false e]
theorem GW(a:Int)(b:Str):decide ((Sum.inl a:Key)=Sum.inr b)=false:=decide_eq_false (fun q=>nomatch q)
theorem GX(a:Str)(b:Int):decide ((Sum.inr a:Key)=Sum.inl b)=false:=decide_eq_false (fun q=>nomatch q)
def bj(prog:Program)(w:World):PySem.KeyKind prog w Key where
 is:=nA
 hash:=Jx w
 inj:=fun v a b ha hb=>by
  rcases bD ha with⟨i,t,rfl,rfl⟩ | ⟨x,t,rfl,rfl⟩
  ·rcases bD hb with⟨j,u,rfl,e⟩ | ⟨y,u,rfl,e⟩
   ·injection e with e1 _;rw[e1]
   ·exact nomatch e
  ·rcases bD hb with⟨j,u,rfl,e⟩ | ⟨y,u,rfl,e⟩
   ·exact nomatch e
   ·injection e with e1 _;rw[e1]
 byValue:=fun k v h=>by
  rcases bD h with⟨i,t,rfl,rfl⟩ | ⟨x,t,rfl,rfl⟩<;>rfl
 pyHash:=fun hv h=>by
  rcases bD hv with⟨i,t,rfl,rfl⟩ | ⟨x,t,rfl,rfl⟩
  ·exact wpAny_pyHash_int h
  ·exact wpAny_pyHash_str h
 eqBool:=fun hu hv h=>by
  rcases bD hu with⟨i,t,rfl,rfl⟩ | ⟨x,t,rfl,rfl⟩
  ·rcases bD hv with⟨j,u,rfl,rfl⟩ | ⟨y,u,rfl,rfl⟩
   ·rw[GV] at h;exact wpAny_eqBool_int h
   ·rw[GW] at h;exact SeqAt.EqAt.int_str i t y u _ _ _ _ h
  ·rcases bD hv with⟨j,u,rfl,rfl⟩ | ⟨y,u,rfl,rfl⟩
   ·rw[GX] at h;exact SeqAt.EqAt.str_int x t j u _ _ _ _ h
   ·rw[GY] at h;exact wpAny_eqBool_str h
 «strs» :=fun k x t v h=>by
  rcases bD h with⟨i,u,rfl,e⟩ | ⟨y,u,rfl,e⟩
  ·exact nomatch e
  ·injection e with e1 _
   subst e1
   cases v<;>rfl
theorem uB(prog:Program)(w:World)(i:Int)(t:Tok):(bj prog w).is (.inl i) (.int i t)=true:=zf i t
theorem uC(prog:Program)(w:World)(x:Str)(t:Tok):(bj prog w).is (.inr x) (.str x t)=true:=zg x t
inductive V where
 |non | bl (b:Bool) | int (i:Int) | str (x:Str) | byt (b:Array UInt8) | flt (b:UInt64) | ref (a:Addr) | ty (n:String)
 deriving DecidableEq
def RelV:V→Value→Prop
 | .non,u=>u=Value.none
 | .bl b,u=>u=Value.bool b
 | .int i,u=>∃t,u=Value.int i t
 | .str x,u=>∃t,u=Value.str x t
 | .byt b,u=>∃t,u=Value.bytes b t
 | .flt b,u=>∃t,u=Value.float b t
 | .ref a,u=>u=Value.ref a
 | .ty n,u=>u=Value.type n
abbrev Vals:List V→List Value→Prop:=Paired RelV
theorem Vals.length{xs:List V}{us:List Value}(r:Vals xs us):xs.length=us.length:=Paired.length r
theorem Vals.get:∀{xs:List V}{us:List Value}{i:Nat}{x:V},Vals xs us→xs[i]? =some x→∃u,us[i]? =some u∧RelV x u
 |_,_,_,_, .nil,e=>by simp at e
 |_,_,0,_, .cons r _,e=>by simp at e;subst e;exact⟨_,rfl,r⟩
 |_,_,i+1,x, .cons _ t,e=>by
  obtain⟨u,h1,h2⟩:=Vals.get (i:=i) (x:=x) t (by simpa using e)
  exact⟨u,by simpa using h1,h2⟩
theorem Vals.append:∀{xs ys:List V}{us ws:List Value},Vals xs us→Vals ys ws→Vals (xs++ys) (us++ws)
 |_,_,_,_, .nil,s=>s
 |_,_,_,_, .cons r t,s=> .cons r (Vals.append t s)
theorem Vals.take:∀{xs:List V}{us:List Value}(n:Nat),Vals xs us→Vals (xs.take n) (us.take n)
 |_,_,0,_=> .nil
 |_,_,_+1, .nil=> .nil
 |_,_,n+1, .cons r t=> .cons r (Vals.take n t)
theorem Vals.drop:∀{xs:List V}{us:List Value}(n:Nat),Vals xs us→Vals (xs.drop n) (us.drop n)
 |_,_,0,r=>r
 |_,_,_+1, .nil=> .nil
 |_,_,n+1, .cons _ t=>Vals.drop n t
def RelO:Option V→Option Value→Prop
 |some v,some u=>RelV v u
 |none,none=>True
 |_,_=>False
def KV{κ:Type}:List (κ×V)→List (κ×Value)→Prop:=Paired fun(p:κ×V) (q:κ×Value)=>p.1=q.1∧RelV p.2 q.2
def kV:Key→V
 | .inl i=> .int i
 | .inr x=> .str x
inductive HO where
 |lst (xs:List V)
 |tup (xs:List V)
 |dK (aw:List (Key×V)) | dT (aw:List (List Key×V))
 |set (S:Int→Bool) (n:Nat)
 |ins (C dx:Addr) (fs:List (Str×V))
 |own (x:Addr)
 |xd (fs:List (Str×V))
 |met (f x:Addr)
 |rng (lo hi:Int)
 |frz (o:Obj) (u:HO)
 |tbl (ps:Array Value)
 |ext (φ:Heap→Prop)
abbrev Hp:=Addr→Option HO
def upd(H:Hp)(a:Addr)(o:HO):Hp:=fun b=>if b=a then some o else H b
theorem aF{H:Hp}{a:Addr}{o:HO}:upd H a o a=some o:=by unfold upd;rw[if_pos rfl]
theorem av{H:Hp}{a b:Addr}{o:HO}(h:b≠a):upd H a o b=H b:=by unfold upd;rw[if_neg h]
theorem Bv{H:Hp}{a b:Addr}{o u:HO}(h:H a=some o)(h':H b=some u)(d:o≠u):a≠b:=by
 intro e;subst e;rw[h] at h';exact d (Option.some.inj h')
theorem ba{H:Hp}{a b:Addr}{o:HO}(h:H a=some o)(h':H b=none):a≠b:=by
 intro e;subst e;rw[h] at h';cases h'
section
variable(P:Program)(w:World)
def ObjOk(H:Hp)(h:Heap)(a:Addr):HO→Prop
 | .lst xs=>xs.length≤sizeLine∧∃(aG:List Value) (n:Nat),Vals xs aG∧h.get? a=some {cls:= .type "list",data:= .seq aG.toArray n}
 | .tup xs=>xs.length≤sizeLine∧∃aG:List Value,Vals xs aG∧IsTup h a aG.toArray
 | .dK aw=>aw.length≤sizeLine∧(a==sysModules)=false∧∃vs,KV aw vs∧h.DictOf (bj P w) a vs
 | .dT aw=>aw.length≤sizeLine∧(a==sysModules)=false∧∃xs:List (List Key×Addr×Value),
    Paired (fun (p:List Key×V) (q:List Key×Addr×Value)=>p.1=q.1∧H q.2.1=some (.tup (p.1.map kV))∧RelV p.2 q.2.2) aw xs∧
    ∃o es ep,h.get? a=some o∧o.ExactDict∧o.data= .dict es ep∧es.toList=xs.map (entryOfKey (tupleKind (bj P w)))∧(xs.map (·.1)).Nodup
 | .set S n=>h.SetOf (intKind P w) a S n
 | .ins C dx fs=>H dx=some (.own a)∧fs.length≤1000∧dx≠a∧h.get? a=some (PySem.W.instObj C dx)∧
    ∃mA,h.Ns1 dx mA∧(∀f,RelO (fs.lookup f) (mA f))∧PySem.Within mA (fs.map (·.1))
 | .own _=>∃o,h.get? a=some o
 | .xd fs=>∃mA,h.Ns1 a mA∧∀f,RelO (fs.lookup f) (mA f)
 | .rng lo hi=>∃t u v,h.get? a=some {cls:= .type "range",data:= .fields #[.int lo t, .int hi u, .int 1 v]}
 | .frz o u=>h.get? a=some o∧ObjOk H h a u
 | .tbl ps=>h.get? a=some {cls:= .none,data:= .fields ps}
 | .met f x=>h.get? a=some (PySem.W.methodObj (.ref f) (.ref x))
 | .ext φ=>φ h∧(∃o,h.get? a=some o)∧∀h1 h2:Heap,φ h1→(∀o,h1.get? a=some o→h2.get? a=some o)→φ h2
def HOk(H:Hp)(h:Heap):Prop:=∀a o,H a=some o→ObjOk P w H h a o
end
section
variable{P:Program}{w:World}{H H':Hp}{h h':Heap}{a:Addr}{o:HO}
theorem ObjOk.lt(x:ObjOk P w H h a o):a<h.objs.size:=by
 cases o with
 |lst xs=>obtain⟨_,_,_,_,e⟩:=x;exact Heap.lt_size e
 |tup xs=>obtain⟨_,_,_,p⟩:=x;exact p.lt
 |dK aw=>obtain⟨_,_,_,_,o,_,_,e,_⟩:=x;exact Heap.lt_size e
 |dT aw=>obtain⟨_,_,_,_,o,_,_,e,_⟩:=x;exact Heap.lt_size e
 |set S n=>obtain⟨o,_,_,_,e,_⟩:=x;exact Heap.lt_size e
 |ins C dx fs=>obtain⟨_,_,_,e,_⟩:=x;exact Heap.lt_size e
 |own y=>obtain⟨_,e⟩:=x;exact Heap.lt_size e
 |xd fs=>obtain⟨_,⟨_,_,_,e,_⟩,_⟩:=x;exact Heap.lt_size e
 |rng lo hi=>obtain⟨_,_,_,e⟩:=x;exact Heap.lt_size e
 |frz ob u=>obtain⟨e,_⟩:=x;exact Heap.lt_size e
 |tbl ps=>exact Heap.lt_size (show h.get? a=some _ from x)
 |met f y=>exact Heap.lt_size (show h.get? a=some _ from x)
 |ext φ=>obtain⟨_,⟨_,e⟩,_⟩:=x;exact Heap.lt_size e
theorem Paired.mapP{α β:Type}{F G:α→β→Prop}:∀{l₁:List α}{l₂:List β},Paired F l₁ l₂→(∀a b,F a b→G a b)→Paired G l₁ l₂
 |_,_, .nil,_=> .nil
 |_,_, .cons r t,f=> .cons (f _ _ r) (Paired.mapP t f)
theorem ObjOk.stay(x:ObjOk P w H h a o)(k:∀b u,(b=a∨H b=some (.own a))→h.get? b=some u→h'.get? b=some u)
 (ho:∀b,H b=some (.own a)→H' b=some (.own a))(ht:∀b xs,H b=some (.tup xs)→H' b=some (.tup xs)):ObjOk P w H' h' a o:=by
 induction o with
 |lst xs=>obtain⟨z,aG,n,r,e⟩:=x;exact⟨z,aG,n,r,k _ _ (.inl rfl) e⟩
 |tup xs=>obtain⟨z,aG,r,ob,e,c⟩:=x;exact⟨z,aG,r,ob,k _ _ (.inl rfl) e,c⟩
 |dK aw=>obtain⟨z,y,vs,r,ob,es,ep,e,c⟩:=x;exact⟨z,y,vs,r,ob,es,ep,k _ _ (.inl rfl) e,c⟩
 |dT aw=>
  obtain⟨z,y,xs,r,ob,es,ep,e,c⟩:=x
  exact⟨z,y,xs,Paired.mapP r fun p q z=>⟨z.1,ht _ _ z.2.1,z.2.2⟩,ob,es,ep,k _ _ (.inl rfl) e,c⟩
 |set S n=>obtain⟨ob,es,ep,t,e,c⟩:=x;exact⟨ob,es,ep,t,k _ _ (.inl rfl) e,c⟩
 |ins C dx fs=>
  obtain⟨d,z,ne,e,mA,⟨od,es,ep,e2,c⟩,r⟩:=x
  exact⟨ho _ d,z,ne,k _ _ (.inl rfl) e,mA,⟨od,es,ep,k _ _ (.inr d) e2,c⟩,r⟩
 |own y=>obtain⟨ob,e⟩:=x;exact⟨ob,k _ _ (.inl rfl) e⟩
 |xd fs=>obtain⟨mA,⟨od,es,ep,e,c⟩,r⟩:=x;exact⟨mA,⟨od,es,ep,k _ _ (.inl rfl) e,c⟩,r⟩
 |rng lo hi=>obtain⟨t,u,v,e⟩:=x;exact⟨t,u,v,k _ _ (.inl rfl) e⟩
 |frz ob u ih=>obtain⟨e,q⟩:=x;exact⟨k _ _ (.inl rfl) e,ih q⟩
 |tbl ps=>
  have e:h.get? a=some {cls:= .none,data:= .fields ps}:=x
  show h'.get? a=some {cls:= .none,data:= .fields ps}
  exact k a _ (.inl rfl) e
 |met f y=>
  have e:h.get? a=some (PySem.W.methodObj (.ref f) (.ref y)):=x
  show h'.get? a=some (PySem.W.methodObj (.ref f) (.ref y))
  exact k a _ (.inl rfl) e
 |ext φ=>obtain⟨p,⟨o,e⟩,st⟩:=x;exact⟨st _ _ p fun o q=>k _ _ (.inl rfl) q,⟨o,k _ _ (.inl rfl) e⟩,st⟩
theorem HOk.lt(x:HOk P w H h)(e:H a=some o):a<h.objs.size:=(x a o e).lt
theorem HOk.fresh(x:HOk P w H h)(e:h.objs.size≤a):H a=none:=by
 cases q:H a with
 |none=>rfl
 |some u=>exact absurd (Nat.lt_of_lt_of_le (x.lt q) e) (Nat.lt_irrefl _)
theorem HOk.kept(x:HOk P w H h)(k:∀b u,h.get? b=some u→h'.get? b=some u):HOk P w H h':=fun a o e=>
 (x a o e).stay (fun b u _ q=>k b u q) (fun _ q=>q) fun _ _ q=>q
theorem HOk.laid(x:HOk P w H h)(k:∀b u,h.get? b=some u→h'.get? b=some u)(hp:h.objs.size≤a)(new:ObjOk P w (upd H a o) h' a o):HOk P w (upd H a o) h':=fun b u e=>by
 have hn:=x.fresh hp
 by_cases hb:b=a
 ·subst hb;rw[aF] at e;cases e;exact new
 ·rw[av hb] at e
  exact(x b u e).stay (fun c v _ q=>k c v q) (fun c q=>by rw[av (ba q hn)];exact q) fun c xs q=>by rw[av (ba q hn)];exact q
end
def Rd(H:Hp)(a:Addr)(u:HO):Prop:=H a=some u∨∃o,H a=some (.frz o u)
theorem Rd.ok{P:Program}{w:World}{H:Hp}{h:Heap}{a:Addr}{u:HO}(r:Rd H a u)(x:HOk P w H h):ObjOk P w H h a u:=by
 rcases r with r | ⟨o,r⟩
 ·exact x a u r
 ·obtain⟨_,q⟩:=x a _ r
  exact q
def Im:Option HO→Prop
 |some (.lst _)=>True
 |some (.dK _)=>True
 |some (.dT _)=>True
 |some (.set _ _)=>True
 |some (.ins _ _ _)=>True
 |some (.ext _)=>True
 |_=>False
section
variable{P:Program}{w:World}{H:Hp}{h h':Heap}{x e:Addr}{o':HO}
theorem HOk.write(ok:HOk P w H h)(mu:Im (H x))(he:e=x∨H e=some (.own x))(k:∀b u,b≠e→h.get? b=some u→h'.get? b=some u)(Aa:∃u,h'.get? e=some u)
 (new:ObjOk P w (upd H x o') h' x o'):HOk P w (upd H x o') h':=fun b u q=>by
 have JE:∀c y,H c=some (.own y)→c≠x:=fun c y r z=>by subst z;rw[r] at mu;exact mu
 have Mh:∀c xs,H c=some (.tup xs)→c≠x:=fun c xs r z=>by subst z;rw[r] at mu;exact mu
 by_cases hb:b=x
 ·subst hb;rw[aF] at q;cases q;exact new
 ·rw[av hb] at q
  by_cases Gi:b=e
  ·have q':H b=some (.own x):=by
    rcases he with z | z
    ·exact absurd (Gi.trans z) hb
    ·rw[Gi];exact z
   rw[q] at q';cases q'
   obtain⟨v,hv⟩:=Aa
   exact⟨v,by rw[Gi];exact hv⟩
  ·refine(ok b u q).stay (fun c v hc r=>k c v ?_ r) (fun c r=>by rw[av (JE c b r)];exact r) fun c xs r=>by rw[av (Mh c xs r)];exact r
   rcases hc with rfl | hc
   ·exact Gi
   ·rintro rfl
    rcases he with z | z
    ·exact JE c b hc z
    ·rw[hc] at z;cases z;exact hb rfl
end
structure Un (fs ex:List Addr) (H H':Hp) (h h':Heap):Prop where
 keep:∀b o,h.get? b=some o→H b=none→b∉fs→b∉ex→h'.get? b=some o
 slot:∀b o,h.get? b=some o→H b=none→b∈fs→b∉ex→∃sl,h'.get? b=some {o with slots:=sl}
 free:∀b o,h.get? b=some o→H b=none→b∉ex→H' b=none
 there:∀b o,h.get? b=some o→b∉ex→∃o',h'.get? b=some o'
 tups:∀b xs,H b=some (.tup xs)→H' b=some (.tup xs)
 frzs:∀b o u,H b=some (.frz o u)→H' b=some (.frz o u)
 tbls:∀b ps,H b=some (.tbl ps)→∃more,H' b=some (.tbl (ps++more))
section
variable{fs Lh ex v5:List Addr}{H H1 H2:Hp}{h h1 h2 h':Heap}{a x e:Addr}{o:HO}
theorem Un.any(u:Un fs ex H H1 h h1){b:Addr}{ob:Obj}(q:h.get? b=some ob)(n:H b=none)(hx:b∉ex):∃sl,h1.get? b=some {ob with slots:=sl}:=by
 by_cases hb:b∈fs
 ·exact u.slot b ob q n hb hx
 ·exact⟨ob.slots,u.keep b ob q n hb hx⟩
theorem Un.trans(a:Un fs ex H H1 h h1)(b:Un fs ex H1 H2 h1 h2):Un fs ex H H2 h h2 where
 keep:=fun c ob q n hc hx=>b.keep c ob (a.keep c ob q n hc hx) (a.free c ob q n hx) hc hx
 slot:=fun c ob q n hc hx=>by
  obtain⟨sl,e1⟩:=a.slot c ob q n hc hx
  obtain⟨HI,e2⟩:=b.slot c _ e1 (a.free c ob q n hx) hc hx
  exact⟨HI,e2⟩
 free:=fun c ob q n hx=>by
  obtain⟨o',e1⟩:=a.there c ob q hx
  exact b.free c o' e1 (a.free c ob q n hx) hx
 there:=fun c ob q hx=>by
  obtain⟨o',e1⟩:=a.there c ob q hx
  exact b.there c o' e1 hx
 tups:=fun c xs q=>b.tups c xs (a.tups c xs q)
 frzs:=fun c ob xs q=>b.frzs c ob xs (a.frzs c ob xs q)
 tbls:=fun c ps q=>by
  obtain⟨m1,e1⟩:=a.tbls c ps q
  obtain⟨m2,e2⟩:=b.tbls c _ e1
  exact⟨m1++m2,by rw[e2,Array.append_assoc]⟩
theorem Un.kept(k:∀b u,h.get? b=some u→h'.get? b=some u):Un fs ex H H h h':=
 ⟨fun b ob q _ _ _=>k b ob q,fun b ob q _ _ _=>⟨ob.slots,k b ob q⟩,fun _ _ _ n _=>n,fun b ob q _=>⟨ob,k b ob q⟩,fun _ _ q=>q,fun _ _ _ q=>q,fun _ ps q=>⟨#[],by rw[q];simp⟩⟩
theorem Un.refl:Un fs ex H H h h:=Un.kept fun _ _ q=>q
theorem Un.laid(k:∀b u,h.get? b=some u→h'.get? b=some u)(hp:h.objs.size≤a)(hn:H a=none):Un fs ex H (upd H a o) h h' where
 keep:=fun b u q _ _ _=>k b u q
 slot:=fun b u q _ _ _=>⟨u.slots,k b u q⟩
 free:=fun b u q n _=>by rw[av (Nat.ne_of_lt (Nat.lt_of_lt_of_le (Heap.lt_size q) hp))];exact n
 there:=fun b u q _=>⟨u,k b u q⟩
 tups:=fun b xs q=>by rw[av (ba q hn)];exact q
 frzs:=fun b u xs q=>by rw[av (ba q hn)];exact q
 tbls:=fun b ps q=>⟨#[],by rw[av (ba q hn),q];simp⟩
theorem Un.write(mu:Im (H x))(he:e=x∨H e=some (.own x))(k:∀b u,b≠e→h.get? b=some u→h'.get? b=some u)(Aa:∃u,h'.get? e=some u):Un fs ex H (upd H x o) h h':=by
 have hx:∀b,H b=none→b≠x:=fun b n z=>by subst z;rw[n] at mu;exact mu
 have hb:∀b,H b=none→b≠e:=fun b n z=>by
  subst z
  rcases he with r | r
  ·exact hx b n r
  ·rw[n] at r;cases r
 have hm:∀b u,H b=some u→¬Im (some u)→b≠x:=fun b u q nm z=>by subst z;rw[q] at mu;exact nm mu
 refine⟨fun b u q n _ _=>k b u (hb b n) q,fun b u q n _ _=>⟨u.slots,k b u (hb b n) q⟩,fun b u q n _=>by rw[av (hx b n)];exact n,fun b u q _=>?_,
  fun b xs q=>by rw[av (hm b _ q fun z=>z)];exact q,fun b u xs q=>by rw[av (hm b _ q fun z=>z)];exact q,fun b ps q=>⟨#[],by rw[av (hm b _ q fun z=>z),q];simp⟩⟩
 by_cases Gi:b=e
 ·subst Gi;exact Aa
 ·exact⟨u,k b u Gi q⟩
theorem Un.mono(u:Un fs ex H H1 h h1)(hs:∀b∈fs,b∈Lh)(hx:∀b∈ex,b∈v5):Un Lh v5 H H1 h h1:=
 ⟨fun b ob q n hb he=>u.keep b ob q n (fun z=>hb (hs b z)) fun z=>he (hx b z),fun _ _ q n _ he=>u.any q n fun z=>he (hx _ z),fun b ob q n he=>u.free b ob q n fun z=>he (hx b z),fun b ob q he=>u.there b ob q fun z=>he (hx b z),u.tups,u.frzs,u.tbls⟩
end
def KZ(h:Heap)(H:Hp):List Addr:=(List.range h.objs.size).filter fun a=>(H a).isSome
def rS(h:Heap)(H:Hp):Heap:=PySem.W.hideAll h (KZ h H)
theorem y6(h:Heap)(H:Hp):(rS h H).objs.size=h.objs.size:=PySem.W.hideAll_size _ _
theorem A5{h:Heap}{H:Hp}{b:Addr}{o:Obj}(e:h.get? b=some o)(n:H b=none):(rS h H).get? b=some o:=
 PySem.W.hideAll_get _ e fun hm=>by
  have q:(H b).isSome=true:=(List.mem_filter.mp hm).2
  rw[n] at q;simp at q
theorem D9{h:Heap}{H:Hp}{b:Addr}{o:Obj}(e:(rS h H).get? b=some o):h.get? b=some o∧H b=none:=by
 have e':h.get? b=some o:=PySem.W.of_hideAll (KZ h H) e
 refine⟨e',?_⟩
 cases q:H b with
 |none=>rfl
 |some x=>
  have hm:b∈KZ h H:=List.mem_filter.mpr ⟨List.mem_range.mpr (Heap.lt_size e'),by simp[q]⟩
  have z:(rS h H).get? b=none:=PySem.W.hideAll_none (KZ h H) hm
  rw[z] at e;cases e
def Dh(g h:Heap)(L:Addr):List (Addr×Obj):=(List.range h.objs.size).filterMap fun a=>if a=L∨(g.get? a).isSome=true then none else(h.get? a).map fun o=>(a,o)
def rest(g h:Heap)(L d:Addr):List (Addr×Obj):=(Dh g h L).filter fun p=>decide (p.1≠d)
structure Mod (K:W.Frag) (mg:Str→Option Value) (base:Heap):Prop where
 kin:K.In base
 glob:base.Ns mainGlobals mg
 blt:∃mb,base.Ns builtinsNs mb∧∀x:Str,x≠"__name__"→mb x=bootBuiltins x
 nolimit:base.NoLimit
structure Cx where
 prog:Program
 w:World
 K:W.Frag
 mg:Str→Option Value
 base:Heap
 A:Around
 N:List Str
 s₀:Shared
 H₀:Hp
 env:Env
 outer:List Env
 stack:List Env
 ex:List Addr
 fn:Str→Bool
 calm:Bool
 pn:List (Addr×Obj)
 xe:Value→Shared→Prop
def mG(l:List Env):List Addr:=l.filterMap (·.frame)
abbrev Cx.fs(X:Cx):List Addr:=mG X.outer
def Lc(sc:Scope)(x:Str):Prop:=sc.names.lookup x=some .local∨sc.names.lookup x=some .cell∨sc.names.lookup x=some .free
def Loc(sc:Scope)(x:Str):Prop:=sc.names.lookup x=some .local∨sc.names.lookup x=some .cell
def Look(env:Env)(h:Heap)(m:Str→Option Value)(x:Str)(u:Value):Prop:=
 (env.kindOf x=some .local∧m x=some u)∨((env.kindOf x=some .cell∨env.kindOf x=some .free)∧∃c,env.cells.lookup x=some c∧h.IsCell c (some u))
structure Cx.Ok (X:Cx):Prop where
 mod:Mod X.K X.mg X.base
 kind:X.env.scope.kind= .function
 glob:X.env.globals=mainGlobals
 blt:X.env.builtins=builtinsNs
 above:X.s₀.heap.objs.size≤X.env.locals
 inj:∀x y c,X.env.cells.lookup x=some c→X.env.cells.lookup y=some c→x=y
 has:∀x,(X.env.kindOf x=some .cell∨X.env.kindOf x=some .free)→∃c,X.env.cells.lookup x=some c
 cab:∀x c,X.fn x=true→X.env.cells.lookup x=some c→X.s₀.heap.objs.size≤c
 hd:X.calm=true→X.A.handled=none
 frames:X.A.frames=some X.stack
 stk:X.stack=X.outer∨(X.stack=X.env::X.outer∧X.env.frame=some X.env.locals)
 exf:∀b∈X.ex,b≠X.env.locals∧∀x c,X.env.cells.lookup x=some c→c≠b
 bs:∀b o,X.base.get? b=some o→X.s₀.heap.get? b=some o∧X.H₀ b=none
 bsz:X.base.objs.size≤X.s₀.heap.objs.size
 noex:∀b o,X.base.get? b=some o→b∉X.ex
 exfs:∀b∈X.ex,b∉X.fs
 funs:X.s₀.heap.FunFrames X.base X.outer
 frf:∀b∈X.fs,X.H₀ b=none
structure Inv (X:Cx) (pins:List (Addr×Obj)) (σ:List (Option V)) (H:Hp) (s:Shared):Prop where
 ok:X.Ok
 os:s.os=X.s₀.os
 bare:AllBare s.gens
 base:Un X.fs X.ex X.H₀ H X.s₀.heap s.heap
 loc:∃m,s.heap.Ns X.env.locals m∧∀(i:Nat) (x:Str) (v:V),X.N[i]? =some x→σ[i]? =some (some v)→Lc X.env.scope x→∃u,RelV v u∧Look X.env s.heap m x u
 cell:∀x c,X.env.cells.lookup x=some c→∃v,s.heap.IsCell c v
 free:H X.env.locals=none
 freeC:∀x c,X.env.cells.lookup x=some c→H c=none
 pin:∀p∈X.pn++pins,s.heap.get? p.1=some p.2∧H p.1=none∧p.1≠X.env.locals∧p.1∉X.fs∧∀v,p.2.data≠ .cell v
 hok:HOk X.prog X.w H s.heap
 len:σ.length=X.N.length
section
variable{X:Cx}{pins:List (Addr×Obj)}{σ:List (Option V)}{H H':Hp}{s:Shared}{h':Heap}
theorem Cx.Ok.nofr(ok:X.Ok){b:Addr}{o:Obj}(e:X.base.get? b=some o):b∉X.fs:=fun hb=>by
 have:=(ok.funs.mem hb).1
 rw[e] at this;cases this
theorem Inv.bs(I:Inv X pins σ H s):∀b o,X.base.get? b=some o→s.heap.get? b=some o∧H b=none:=fun b o e=>
 ⟨I.base.keep b o (I.ok.bs b o e).1 (I.ok.bs b o e).2 (I.ok.nofr e) (I.ok.noex b o e),I.base.free b o (I.ok.bs b o e).1 (I.ok.bs b o e).2 (I.ok.noex b o e)⟩
theorem Inv.bk(I:Inv X pins σ H s):∀b o,X.base.get? b=some o→s.heap.get? b=some o:=fun b o e=>(I.bs b o e).1
theorem Inv.mod(I:Inv X pins σ H s):Mod X.K X.mg X.base:=I.ok.mod
theorem Inv.kIn(I:Inv X pins σ H s):X.K.In s.heap:=I.ok.mod.kin.keeps I.bk
theorem Inv.nolimit(I:Inv X pins σ H s):s.heap.NoLimit:=I.ok.mod.nolimit.keeps I.bk
theorem Inv.lt(I:Inv X pins σ H s):X.env.locals<s.heap.objs.size:=let ⟨_,hn,_⟩:=I.loc;hn.lt
theorem Inv.sz(I:Inv X pins σ H s):X.s₀.heap.objs.size≤s.heap.objs.size:=Nat.le_trans I.ok.above (Nat.le_of_lt I.lt)
theorem Inv.nofs(I:Inv X pins σ H s){a:Addr}(h:s.heap.objs.size≤a):a∉X.fs:=fun hb=>by
 obtain⟨_,o,ho,_⟩:=I.ok.funs.mem hb
 exact absurd (Nat.lt_of_lt_of_le (Heap.lt_size ho) (Nat.le_trans I.sz h)) (Nat.lt_irrefl _)
theorem Inv.cne(I:Inv X pins σ H s):∀x c,X.env.cells.lookup x=some c→c≠X.env.locals:=fun x c e z=>by
 obtain⟨v,o,ho,hd⟩:=I.cell x c e
 obtain⟨m,⟨o',es,ep,qd,qc,_⟩,_⟩:=I.loc
 rw[z,qd] at ho;cases ho;rw[qc] at hd;cases hd
theorem Inv.funs(I:Inv X pins σ H s):s.heap.FunFrames X.base X.outer:=by
 have all:∀(l:List Env),(∀b∈mG l,b∈X.fs)→X.s₀.heap.FunFrames X.base l→s.heap.FunFrames X.base l:=by
  intro l
  induction l with
  |nil=>intro _ _;trivial
  |cons env r ih=>
   intro hs hl
   obtain⟨hk,⟨L,o,hf,hn,ho,hd⟩,hr⟩:=hl
   have hL:L∈X.fs:=hs L (by unfold mG;rw[List.filterMap_cons,hf];exact List.mem_cons_self)
   obtain⟨sl,e⟩:=I.base.slot L o ho (I.ok.frf L hL) hL fun z=>I.ok.exfs L z hL
   exact⟨hk,⟨L,_,hf,hn,e,hd⟩,ih (fun b hb=>hs b (by unfold mG;rw[List.filterMap_cons,hf];exact List.mem_cons_of_mem _ hb)) hr⟩
 exact all X.outer (fun _ hb=>hb) I.ok.funs
theorem Inv.stack(I:Inv X pins σ H s):s.heap.FunFrames X.base X.stack:=by
 rcases I.ok.stk with e | ⟨e,hf⟩
 ·rw[e];exact I.funs
 ·rw[e]
  obtain⟨m,hn,_⟩:=I.loc
  refine .cons (by rw[I.ok.kind];decide) hf hn ?_ I.funs
  exact Heap.get?_none_of_le (Nat.le_trans I.ok.bsz I.ok.above)
theorem Inv.stkSub(I:Inv X pins σ H s):∀b∈mG X.stack,b∈X.env.locals::X.fs:=fun b hb=>by
 rcases I.ok.stk with e | ⟨e,hf⟩
 ·rw[e] at hb;exact List.mem_cons_of_mem _ hb
 ·rw[e] at hb
  unfold mG at hb
  rw[List.filterMap_cons,hf] at hb
  exact hb
theorem Inv.stkFree(I:Inv X pins σ H s):∀b∈mG X.stack,H b=none:=fun b hb=>by
 rcases List.mem_cons.mp (I.stkSub b hb) with e | hb
 ·rw[e];exact I.free
 ·obtain⟨_,o,ho,_⟩:=I.ok.funs.mem hb
  exact I.base.free b o ho (I.ok.frf b hb) fun z=>I.ok.exfs b z hb
theorem Inv.step{g':Array GenState}{t':Nat}{d':Drawn}{ch:List Addr}(I:Inv X pins σ H s)
 (Dc:∀b∈ch,(b∈X.ex∨X.s₀.heap.objs.size≤b)∧b≠X.env.locals∧(∀x c,X.env.cells.lookup x=some c→c≠b)∧∀p∈X.pn++pins,p.1≠b)
 (keep:∀b o,b≠X.env.locals→b∉X.fs→b∉ch→s.heap.get? b=some o→H b=none→h'.get? b=some o)
 (slot:∀b o,b≠X.env.locals→b∈X.fs→b∉ch→s.heap.get? b=some o→H b=none→∃sl,h'.get? b=some {o with slots:=sl})(free:∀b o,b∉ch→s.heap.get? b=some o→H b=none→H' b=none)
 (there:∀b o,b∉ch→s.heap.get? b=some o→∃o',h'.get? b=some o')
 (tups:∀b xs,H b=some (.tup xs)→H' b=some (.tup xs))(frzs:∀b o u,H b=some (.frz o u)→H' b=some (.frz o u))(tbls:∀b ps,H b=some (.tbl ps)→∃more,H' b=some (.tbl (ps++more)))
 (ns:∀m,s.heap.Ns X.env.locals m→h'.Ns X.env.locals m)(hok:HOk X.prog X.w H' h')(hg:AllBare g'):
 Inv X pins σ H' {s with heap:=h',gens:=g',drawn:=d',toks:=t'}:=by
 have NI:∀b o,X.s₀.heap.get? b=some o→b≠X.env.locals:=fun b o e=>Nat.ne_of_lt (Nat.lt_of_lt_of_le (Heap.lt_size e) I.ok.above)
 have KR:∀b o,X.s₀.heap.get? b=some o→b∉X.ex→b∉ch:=fun b o e hx hb=>by
  rcases(Dc b hb).1 with z | z
  ·exact hx z
  ·exact absurd (Nat.lt_of_lt_of_le (Heap.lt_size e) z) (Nat.lt_irrefl _)
 have cellK:∀x c,X.env.cells.lookup x=some c→∀v,s.heap.IsCell c v→h'.IsCell c v:=fun x c e v ⟨o,ho,hd⟩=>by
  have JB:c∉ch:=fun z=>(Dc c z).2.2.1 x c e rfl
  by_cases hc:c∈X.fs
  ·obtain⟨sl,q⟩:=slot c o (I.cne x c e) hc JB ho (I.freeC x c e)
   exact⟨_,q,hd⟩
  ·exact⟨o,keep c o (I.cne x c e) hc JB ho (I.freeC x c e),hd⟩
 refine⟨I.ok,I.os,hg,⟨fun b o e n hb hx=>?_,fun b o e n hb hx=>?_,fun b o e n hx=>?_,fun b o e hx=>?_,fun b xs e=>tups b xs (I.base.tups b xs e),fun b o xs e=>frzs b o xs (I.base.frzs b o xs e),fun b ps e=>?_⟩,?_,fun x c e=>?_,?_,fun x c e=>?_,fun p hp=>?_,hok,I.len⟩
 ·exact keep b o (NI b o e) hb (KR b o e hx) (I.base.keep b o e n hb hx) (I.base.free b o e n hx)
 ·obtain⟨sl,e1⟩:=I.base.slot b o e n hb hx
  obtain⟨HI,e2⟩:=slot b _ (NI b o e) hb (KR b o e hx) e1 (I.base.free b o e n hx)
  exact⟨HI,e2⟩
 ·obtain⟨o',e1⟩:=I.base.there b o e hx
  exact free b o' (KR b o e hx) e1 (I.base.free b o e n hx)
 ·obtain⟨o',e1⟩:=I.base.there b o e hx
  exact there b o' (KR b o e hx) e1
 ·obtain⟨m1,e1⟩:=I.base.tbls b ps e
  obtain⟨m2,e2⟩:=tbls b _ e1
  exact⟨m1++m2,by rw[e2,Array.append_assoc]⟩
 ·obtain⟨m,hn,hl⟩:=I.loc
  refine⟨m,ns m hn,fun i x v e1 e2 e3=>?_⟩
  obtain⟨u,r,l⟩:=hl i x v e1 e2 e3
  refine⟨u,r,?_⟩
  rcases l with l | ⟨k,c,e,z⟩
  ·exact .inl l
  ·exact .inr ⟨k,c,e,cellK x c e _ z⟩
 ·obtain⟨v,z⟩:=I.cell x c e
  exact⟨v,cellK x c e v z⟩
 ·obtain⟨m,⟨o,_,_,ho,_⟩,_⟩:=I.loc
  exact free _ o (fun z=>(Dc _ z).2.1 rfl) ho I.free
 ·obtain⟨v,o,ho,hd⟩:=I.cell x c e
  exact free c o (fun z=>(Dc c z).2.2.1 x c e rfl) ho (I.freeC x c e)
 ·obtain⟨e,n,ne,nf,d⟩:=I.pin p hp
  have JB:p.1∉ch:=fun z=>(Dc p.1 z).2.2.2 p hp rfl
  exact⟨keep p.1 p.2 ne nf JB e n,free p.1 p.2 JB e n,ne,nf,d⟩
theorem Inv.un{t':Nat}(I:Inv X pins σ H s)(u:Un X.fs [] H H' s.heap h')(hok:HOk X.prog X.w H' h'):Inv X pins σ H' {s with heap:=h',toks:=t'}:=by
 obtain⟨m,⟨o,es,ep,ho,r⟩,_⟩:=id I.loc
 obtain⟨sl,hL⟩:=u.any ho I.free (by simp)
 exact I.step (g':=s.gens) (d':=s.drawn) (ch:=[]) (fun _ z=>nomatch z) (fun b o _ hb _ e n=>u.keep b o e n hb (by simp)) (fun b o _ hb _ e n=>u.slot b o e n hb (by simp)) (fun b o _ e n=>u.free b o e n (by simp)) (fun b o _ e=>u.there b o e (by simp)) u.tups u.frzs u.tbls (fun m' hm=>by
  obtain⟨o',Fi,Dv,qd,r'⟩:=hm
  rw[ho] at qd;cases qd
  exact⟨_,Fi,Dv,hL,r'⟩) hok I.bare
theorem Inv.call{g':Array GenState}{t':Nat}{d':Drawn}{ch:List Addr}(I:Inv X pins σ H s)(u:Un (mG X.stack) ch H H' s.heap h')(hok:HOk X.prog X.w H' h')(hg:AllBare g')
 (Dc:∀b∈ch,(b∈X.ex∨X.s₀.heap.objs.size≤b)∧b≠X.env.locals∧(∀x c,X.env.cells.lookup x=some c→c≠b)∧∀p∈X.pn++pins,p.1≠b):
 Inv X pins σ H' {s with heap:=h',gens:=g',drawn:=d',toks:=t'}:=by
 obtain⟨m,⟨o,es,ep,ho,r⟩,_⟩:=id I.loc
 obtain⟨sl,hL⟩:=u.any ho I.free fun z=>(Dc _ z).2.1 rfl
 exact I.step (ch:=ch) Dc (fun b o hL hb hc e n=>u.keep b o e n (fun z=>(List.mem_cons.mp (I.stkSub b z)).elim hL hb) hc) (fun b o _ _ hc e n=>u.any e n hc) (fun b o hc e n=>u.free b o e n hc) (fun b o hc e=>u.there b o e hc) u.tups u.frzs u.tbls (fun m' hm=>by
  obtain⟨o',Fi,Dv,qd,r'⟩:=hm
  rw[ho] at qd;cases qd
  exact⟨_,Fi,Dv,hL,r'⟩) hok hg
theorem Inv.turned{t':Nat}{it:Addr}(I:Inv X pins σ H s)(k:∀b o,b≠it→s.heap.get? b=some o→h'.get? b=some o)(hn:H it=none)(hL:it≠X.env.locals)
 (h1:it∈X.ex∨X.s₀.heap.objs.size≤it)(h2:∀x c,X.env.cells.lookup x=some c→c≠it)(h3:∀p∈X.pn++pins,p.1≠it):Inv X pins σ H {s with heap:=h',toks:=t'}:=by
 have FD:∀b u,H b=some u→b≠it:=fun b u e z=>by rw[z,hn] at e;cases e
 refine I.step (g':=s.gens) (d':=s.drawn) (ch:=[it]) (fun b hb=>?_) (fun b o _ _ hc e _=>k b o (fun z=>hc (by simp[z])) e) (fun b o _ _ hc e _=>⟨o.slots,k b o (fun z=>hc (by simp[z])) e⟩) (fun _ _ _ _ n=>n)
  (fun b o hc e=>⟨o,k b o (fun z=>hc (by simp[z])) e⟩) (fun _ _ e=>e) (fun _ _ _ e=>e) (fun b ps e=>⟨#[],by rw[e];simp⟩) (fun m hm=>?_) (fun b u e=>?_) I.bare
 ·have e:b=it:=by simpa using hb
  subst e
  exact⟨h1,hL,h2,h3⟩
 ·obtain⟨o,es,ep,ho,r⟩:=hm
  exact⟨o,es,ep,k _ o (Ne.symm hL) ho,r⟩
 ·refine(I.hok b u e).stay (fun c v hc q=>k c v ?_ q) (fun _ q=>q) fun _ _ q=>q
  rcases hc with z | z
  ·rw[z];exact FD b u e
  ·exact FD c _ z
theorem Inv.tok(I:Inv X pins σ H s)(t:Nat):Inv X pins σ H {s with toks:=t}:=I.un (h':=s.heap) (t':=t) Un.refl I.hok
theorem Inv.kept{t':Nat}(I:Inv X pins σ H s)(k:∀b u,s.heap.get? b=some u→h'.get? b=some u):Inv X pins σ H {s with heap:=h',toks:=t'}:=I.un (Un.kept k) (I.hok.kept k)
theorem Inv.laid{a:Addr}{o:HO}{t':Nat}(I:Inv X pins σ H s)(k:∀b u,s.heap.get? b=some u→h'.get? b=some u)(hp:s.heap.objs.size≤a)(new:ObjOk X.prog X.w (upd H a o) h' a o):
 Inv X pins σ (upd H a o) {s with heap:=h',toks:=t'}:=I.un (Un.laid k hp (I.hok.fresh hp)) (I.hok.laid k hp new)
theorem Inv.write{x e:Addr}{o:HO}{t':Nat}(I:Inv X pins σ H s)(mu:Im (H x))(he:e=x∨H e=some (.own x))(k:∀b u,b≠e→s.heap.get? b=some u→h'.get? b=some u)(Aa:∃u,h'.get? e=some u)
 (new:ObjOk X.prog X.w (upd H x o) h' x o):Inv X pins σ (upd H x o) {s with heap:=h',toks:=t'}:=I.un (Un.write mu he k Aa) (I.hok.write mu he k Aa new)
theorem Inv.pins_of{FH:List (Addr×Obj)}(I:Inv X pins σ H s)(h:∀p∈FH,s.heap.get? p.1=some p.2∧H p.1=none∧p.1≠X.env.locals∧p.1∉X.fs∧∀v,p.2.data≠ .cell v):Inv X FH σ H s:=
 ⟨I.ok,I.os,I.bare,I.base,I.loc,I.cell,I.free,I.freeC,fun p hp=>(List.mem_append.mp hp).elim (fun z=>I.pin p (List.mem_append_left _ z)) (h p),I.hok,I.len⟩
theorem uF{N:List Str}(hN:N.Nodup){i j:Nat}{x:Str}(a:N[i]? =some x)(b:N[j]? =some x):i=j:=by
 obtain⟨h1,e1⟩:=List.getElem?_eq_some_iff.mp a
 obtain⟨h2,e2⟩:=List.getElem?_eq_some_iff.mp b
 exact(List.getElem_inj hN).mp (e1.trans e2.symm)
theorem ra{M:Model}{A:Around}{E:Value→Shared→Prop}{i:Nat}{x:Str}{v:V}{u:Value}{Q:Unit→Shared→Prop}(I:Inv X pins σ H s)(hN:X.N.Nodup)(hi:X.N[i]? =some x)(hx:Loc X.env.scope x)(r:RelV v u)
 (h:∀s',Inv X pins (σ.set i (some v)) H s'→(∃a,Heap.SameBut a s.heap s'.heap∧(a=X.env.locals∨X.env.cells.lookup x=some a))→Q () s')(hf:X.fn x=true∨X.env.scope.names.lookup x=some .local:=by first | exact .inl rfl | exact .inr rfl | assumption):wpAny M A (storeName X.env x u) Q E s:=by
 obtain⟨m,hn,hl⟩:=id I.loc
 have Lr:(X.env.scope.kind== .class||(X.env.scope.kind== .module&&X.env.locals !=X.env.globals))=false:=by rw[I.ok.kind];rfl
 have Nl:i<σ.length:=by rw[I.len];exact(List.getElem?_eq_some_iff.mp hi).1
 have cne:=I.cne
 have tracked:∀{a:Addr}{h':Heap},(∃o,s.heap.get? a=some o∧H a=none)→Heap.SameBut a s.heap h'→HOk X.prog X.w H h':=fun {a h'} ha hs b ob e=>by
  obtain⟨_,_,Fv⟩:=ha
  refine(I.hok b ob e).stay (fun c w' hc q=>(hs.2 c ?_).trans q) (fun _ q=>q) fun _ _ q=>q
  rintro rfl
  rcases hc with rfl | hc
  ·rw[Fv] at e;cases e
  ·rw[Fv] at hc;cases hc
 rcases hx with hk | hk
 ·refine wpAny_storeName_local hk hn (fun h' y9 hs=>?_) Lr
  obtain⟨oL,_,_,Gz,_⟩:=id hn
  refine h _ ⟨I.ok,I.os,I.bare,⟨fun b o e n hb hx=>?_,fun b o e n hb hx=>?_,I.base.free,fun b o e hx=>?_,I.base.tups,I.base.frzs,I.base.tbls⟩,⟨_,y9,fun j y v' e1 e2 e3=>?_⟩,fun y c e=>?_,I.free,I.freeC,fun p hp=>?_,tracked ⟨oL,Gz,I.free⟩ hs,by simpa using I.len⟩ ⟨_,hs, .inl rfl⟩
  ·exact(hs.2 b (Nat.ne_of_lt (Nat.lt_of_lt_of_le (Heap.lt_size e) I.ok.above))).trans (I.base.keep b o e n hb hx)
  ·obtain⟨sl,e1⟩:=I.base.slot b o e n hb hx
   exact⟨sl,(hs.2 b (Nat.ne_of_lt (Nat.lt_of_lt_of_le (Heap.lt_size e) I.ok.above))).trans e1⟩
  ·obtain⟨o',e1⟩:=I.base.there b o e hx
   exact⟨o',(hs.2 b (Nat.ne_of_lt (Nat.lt_of_lt_of_le (Heap.lt_size e) I.ok.above))).trans e1⟩
  ·by_cases hj:j=i
   ·subst hj
    rw[hi] at e1;cases e1
    rw[List.getElem?_set_self Nl] at e2
    cases e2
    exact⟨u,r, .inl ⟨hk,by simp⟩⟩
   ·rw[List.getElem?_set_ne (Ne.symm hj)] at e2
    obtain⟨u',r',q⟩:=hl j y v' e1 e2 e3
    refine⟨u',r',?_⟩
    rcases q with⟨k,e⟩ | ⟨k,c,e,z⟩
    ·refine .inl ⟨k,?_⟩
     have:y≠x:=fun e=>hj (uF hN e1 (e▸hi))
     simp[this,e]
    ·exact .inr ⟨k,c,e,z.sameBut hs (cne y c e)⟩
  ·obtain⟨w',z⟩:=I.cell y c e
   exact⟨w',z.sameBut hs (cne y c e)⟩
  ·obtain⟨e,n,ne,nf,d⟩:=I.pin p hp
   exact⟨(hs.2 p.1 ne).trans e,n,ne,nf,d⟩
 ·have Lz:X.fn x=true:=by
   rcases hf with z | z
   ·exact z
   ·rw[z] at hk;cases hk
  obtain⟨c,hc⟩:=I.ok.has x (.inl hk)
  obtain⟨w',z⟩:=I.cell x c hc
  refine wpAny_storeName_cell I.ok.kind hk hc z (fun h' Fq hs=>?_)
  obtain⟨oc,KD,LN⟩:=id z
  refine h {s with heap:=h'} ⟨I.ok,I.os,I.bare,⟨fun b o e n hb hx=>?_,fun b o e n hb hx=>?_,I.base.free,fun b o e hx=>?_,I.base.tups,I.base.frzs,I.base.tbls⟩,⟨m,hn.sameBut hs (Ne.symm (cne x c hc)),fun j y v' e1 e2 e3=>?_⟩,fun y c' e=>?_,I.free,I.freeC,fun p hp=>?_,tracked ⟨oc,KD,I.freeC x c hc⟩ hs,by simpa using I.len⟩ ⟨c,hs, .inr hc⟩
  ·exact(hs.2 b (Nat.ne_of_lt (Nat.lt_of_lt_of_le (Heap.lt_size e) (I.ok.cab x c Lz hc)))).trans (I.base.keep b o e n hb hx)
  ·obtain⟨sl,e1⟩:=I.base.slot b o e n hb hx
   exact⟨sl,(hs.2 b (Nat.ne_of_lt (Nat.lt_of_lt_of_le (Heap.lt_size e) (I.ok.cab x c Lz hc)))).trans e1⟩
  ·obtain⟨o',e1⟩:=I.base.there b o e hx
   exact⟨o',(hs.2 b (Nat.ne_of_lt (Nat.lt_of_lt_of_le (Heap.lt_size e) (I.ok.cab x c Lz hc)))).trans e1⟩
  ·by_cases hj:j=i
   ·subst hj
    rw[hi] at e1;cases e1
    rw[List.getElem?_set_self Nl] at e2
    cases e2
    exact⟨u,r, .inr ⟨.inl hk,c,hc,Fq⟩⟩
   ·rw[List.getElem?_set_ne (Ne.symm hj)] at e2
    obtain⟨u',r',q⟩:=hl j y v' e1 e2 e3
    refine⟨u',r',?_⟩
    rcases q with q | ⟨k,c',e,z'⟩
    ·exact .inl q
    ·refine .inr ⟨k,c',e,z'.sameBut hs ?_⟩
     rintro rfl
     exact hj (uF hN e1 (I.ok.inj _ _ _ e hc▸hi))
  ·by_cases Kx:c'=c
   ·subst Kx;exact⟨_,Fq⟩
   ·obtain⟨w2,z2⟩:=I.cell y c' e
    exact⟨w2,z2.sameBut hs Kx⟩
  ·obtain⟨e,n,ne,nf,d⟩:=I.pin p hp
   refine⟨(hs.2 p.1 ?_).trans e,n,ne,nf,d⟩
   intro q
   rw[q,KD] at e
   have q':oc=p.2:=Option.some.inj e
   exact d w' (by rw[←q'];exact LN)
theorem vv{M:Model}{A:Around}{E:Value→Shared→Prop}{i:Nat}{x:Str}{v:V}{u:Value}{Q:Unit→Shared→Prop}(I:Inv X pins σ H s)(hN:X.N.Nodup)(hi:X.N[i]? =some x)(hx:Loc X.env.scope x)(r:RelV v u)
 (h:∀s',Inv X pins (σ.set i (some v)) H s'→Q () s')(hf:X.fn x=true∨X.env.scope.names.lookup x=some .local:=by first | exact .inl rfl | exact .inr rfl | assumption):wpAny M A (storeName X.env x u) Q E s:=
 ra I hN hi hx r (fun s' I' _=>h s' I') hf
theorem Inv.call'{s':Shared}{ch:List Addr}(I:Inv X pins σ H s)(ho:s'.os=s.os)(u:Un (mG X.stack) ch H H' s.heap s'.heap)(hok:HOk X.prog X.w H' s'.heap)(hg:AllBare s'.gens)
 (Dc:∀b∈ch,(b∈X.ex∨X.s₀.heap.objs.size≤b)∧b≠X.env.locals∧(∀x c,X.env.cells.lookup x=some c→c≠b)∧∀p∈X.pn++pins,p.1≠b):Inv X pins σ H' s':=by
 obtain⟨h',g',d',t',o'⟩:=s'
 have e:o'=s.os:=ho
 subst e
 exact I.call (g':=g') (t':=t') (d':=d') u hok hg Dc
end
abbrev XK:=Value→Option Addr→Hp→Prop
abbrev St:=List (Option V)
abbrev VK:=V→Hp→Prop
abbrev TE:=St→Hp→VK→Prop
abbrev TT:=St→Hp→(Bool→Hp→Prop)→Prop
abbrev TA:=St→Hp→(List V→Hp→Prop)→Prop
structure Ends where
 nx:St→Hp→Prop
 rt:VK
 bk:St→Hp→Prop:=fun _ _=>False
 ct:St→Hp→Prop:=fun _ _=>False
abbrev TS:=Ends→St→Hp→Prop
def EP(X:Cx)(pins:List (Addr×Obj))(σ:St)(Q:VK)(u:Value)(s':Shared):Prop:=∃v H',Inv X pins σ H' s'∧RelV v u∧Q v H'
def TP(X:Cx)(pins:List (Addr×Obj))(σ:St)(Q:Bool→Hp→Prop)(b:Bool)(s':Shared):Prop:=∃H',Inv X pins σ H' s'∧Q b H'
def AP(X:Cx)(pins:List (Addr×Obj))(σ:St)(Q:List V→Hp→Prop)(us:List Value)(s':Shared):Prop:=∃vs H',Inv X pins σ H' s'∧Vals vs us∧Q vs H'
def SP(X:Cx)(pins:List (Addr×Obj))(D:Ends)(f:Flow)(s':Shared):Prop:=
 match f with
 | .next=>∃σ' H',Inv X pins σ' H' s'∧D.nx σ' H'
 | .brk=>∃σ' H',Inv X pins σ' H' s'∧D.bk σ' H'
 | .cont=>∃σ' H',Inv X pins σ' H' s'∧D.ct σ' H'
 | .ret u=>∃v σ' H',Inv X pins σ' H' s'∧RelV v u∧D.rt v H'
def PE(X:Cx)(e:Expr)(t:TE):Prop:=
 ∀(pins:List (Addr×Obj)) (s:Shared) (σ:St) (H:Hp) (Q:VK),Inv X pins σ H s→t σ H Q→wpAny (model X.prog X.w) X.A (eval e X.env) (EP X pins σ Q) X.xe s
def PT(X:Cx)(e:Expr)(t:TT):Prop:=
 ∀(pins:List (Addr×Obj)) (s:Shared) (σ:St) (H:Hp) (Q:Bool→Hp→Prop),Inv X pins σ H s→t σ H Q→wpAny (model X.prog X.w) X.A (isTrue e X.env (eval e X.env)) (TP X pins σ Q) X.xe s
def PW(X:Cx)(e:Expr)(t:TT):Prop:=
 ∀(whole:Sem Value) (pins:List (Addr×Obj)) (s:Shared) (σ:St) (H:Hp) (Q:Bool→Hp→Prop),Inv X pins σ H s→t σ H Q→wpAny (model X.prog X.w) X.A (isTrue e X.env whole) (TP X pins σ Q) X.xe s
theorem PW.pt{X:Cx}{e:Expr}{t:TT}(h:PW X e t):PT X e t:=h _
def PA(X:Cx)(es:List Expr)(t:TA):Prop:=
 ∀(pos:Pos) (pins:List (Addr×Obj)) (s:Shared) (σ:St) (H:Hp) (Q:List V→Hp→Prop),Inv X pins σ H s→t σ H Q→wpAny (model X.prog X.w) X.A (spliced (backTo pos (starEach es X.env))) (AP X pins σ Q) X.xe s
def PS(X:Cx)(st:Stmt)(t:TS):Prop:=
 ∀(pins:List (Addr×Obj)) (s:Shared) (σ:St) (H:Hp) (D:Ends),Inv X pins σ H s→t D σ H→wpAny (model X.prog X.w) X.A (exec st X.env) (SP X pins D) X.xe s
def PSs(X:Cx)(st:List Stmt)(t:TS):Prop:=
 ∀(pins:List (Addr×Obj)) (s:Shared) (σ:St) (H:Hp) (D:Ends),Inv X pins σ H s→t D σ H→wpAny (model X.prog X.w) X.A (execs st X.env) (SP X pins D) X.xe s
theorem bS{α:Type}{t:Sem α}{Q Q':α→Shared→Prop}{M:Model}{A:Around}{E:Value→Shared→Prop}{s:Shared}(h:wpAny M A t Q E s)(hQ:∀a s,Q a s→Q' a s):wpAny M A t Q' E s:=wpAny_mono h hQ fun _ _ x=>x
section
variable{X:Cx}
theorem bin{a b:Expr}{ta tb:TE}(ha:PE X a ta)(hb:PE X b tb){pins:List (Addr×Obj)}{s:Shared}{σ:St}{H:Hp}{R:V→V→Hp→Prop}(I:Inv X pins σ H s)(h:ta σ H fun x H1=>tb σ H1 fun y H2=>R x y H2)
 {α:Type}{Q:α→Shared→Prop}{f:Value→Value→Sem α}
 (hf:∀v u s2 x y H2,Inv X pins σ H2 s2→RelV x v→RelV y u→R x y H2→wpAny (model X.prog X.w) X.A (f v u) Q X.xe s2):
 wpAny (model X.prog X.w) X.A (eval a X.env) (fun v s₁=>wpAny (model X.prog X.w) X.A (eval b X.env) (fun u s₂=>wpAny (model X.prog X.w) X.A (f v u) Q X.xe s₂) X.xe s₁) X.xe s:=by
 refine bS (ha pins s σ H _ I h) fun v s1 ⟨x,H1,I1,r1,q1⟩=>?_
 refine bS (hb pins s1 σ H1 _ I1 q1) fun u s2 ⟨y,H2,I2,r2,q2⟩=>?_
 exact hf v u s2 x y H2 I2 r1 r2 q2
def oU(i:Nat):TE:=fun σ H Q=>∃v,σ[i]? =some (some v)∧Q v H
def tC(v:V):TE:=fun _ H Q=>Q v H
theorem Hq{i:Nat}{x:Str}{pos:Pos}(hN:X.N[i]? =some x)(hv:Lc X.env.scope x)(hd:(x==("__debug__":Str))=false:=by decide)(vK:(x==("__classdict__":Str))=false:=by decide):PE X (.Name x pos) (oU i):=by
 intro pins s σ H Q I h
 obtain⟨v,e,h⟩:=h
 obtain⟨m,hn,hl⟩:=I.loc
 obtain⟨u,r,l⟩:=hl i x v hN e hv
 have fin:EP X pins σ Q u s:=⟨v,H,I,r,h⟩
 rcases l with⟨hk,hm⟩ | ⟨hk,c,hc,Ft⟩
 ·exact wpAny_Name (wpAny_loadName_local I.ok.kind hk hn hm fin) hd
 ·rcases hk with hk | hk
  ·exact wpAny_Name (wpAny_loadName_cell I.ok.kind hk hc Ft fin) hd
  ·exact wpAny_Name (wpAny_loadName_free I.ok.kind hk hc Ft fin vK) hd
theorem Hh{i j pos}:PE X (.Constant (.int i) j pos) (tC (.int i)):=fun _ _ _ H _ I h=>wpAny_Constant_int ⟨.int i,H,I.tok _,⟨_,rfl⟩,h⟩
theorem JN{b j pos}:PE X (.Constant (.bool b) j pos) (tC (.bl b)):=fun _ _ _ H _ I h=>Constant_bool ⟨.bl b,H,I,rfl,h⟩
theorem Hi{j pos}:PE X (.Constant .none j pos) (tC .non):=fun _ _ _ H _ I h=>Constant_none ⟨.non,H,I,rfl,h⟩
theorem Hm{x j pos}:PE X (.Constant (.str x) j pos) (tC (.str x)):=fun _ _ _ H _ I h=>Calls.Constant_str ⟨.str x,H,I.tok _,⟨_,rfl⟩,h⟩
def Gl(X:Cx)(x:Str):Prop:=X.env.kindOf x=some .globalImplicit
theorem xZ{E:Value→Shared→Prop}{pins:List (Addr×Obj)}{s:Shared}{σ:St}{H:Hp}{x:Str}{u:Value}{pos:Pos}{Q:Value→Shared→Prop}(I:Inv X pins σ H s)(hg:Gl X x)(hm:X.mg x=some u)(h:Q u s)
 (hd:(x==("__debug__":Str))=false:=by decide):wpAny (model X.prog X.w) X.A (eval (.Name x pos) X.env) Q E s:=
 Calls.Name_function_global I.ok.kind hg (Calls.loadGlobal_global (by rw[I.ok.glob];exact I.mod.glob.keeps I.bk) hm h) hd
theorem gO{E:Value→Shared→Prop}{pins:List (Addr×Obj)}{s:Shared}{σ:St}{H:Hp}{x:Str}{u:Value}{pos:Pos}{Q:Value→Shared→Prop}(I:Inv X pins σ H s)(hg:Gl X x)(hm:X.mg x=none)(hv:bootBuiltins x=some u)(h:Q u s)
 (hn:x≠"__name__":=by decide)(hd:(x==("__debug__":Str))=false:=by decide):wpAny (model X.prog X.w) X.A (eval (.Name x pos) X.env) Q E s:=by
 obtain⟨mb,h1,h2⟩:=I.mod.blt
 exact Calls.Name_function_global I.ok.kind hg (Calls.loadGlobal_builtin (by rw[I.ok.glob];exact I.mod.glob.keeps I.bk) hm (by rw[I.ok.blt];exact h1.keeps I.bk) ((h2 x hn).trans hv) h) hd
theorem Ew{x:Str}{v:V}{u:Value}{pos:Pos}(hg:Gl X x)(hm:X.mg x=some u)(r:RelV v u)(hd:(x==("__debug__":Str))=false:=by decide):PE X (.Name x pos) (tC v):=
 fun _ _ _ H _ I h=>xZ I hg hm ⟨v,H,I,r,h⟩ hd
theorem Er{x:Str}{v:V}{u:Value}{pos:Pos}(hg:Gl X x)(hm:X.mg x=none)(hv:bootBuiltins x=some u)(r:RelV v u)(hn:x≠"__name__":=by decide)(hd:(x==("__debug__":Str))=false:=by decide):PE X (.Name x pos) (tC v):=
 fun _ _ _ H _ I h=>gO I hg hm hv ⟨v,H,I,r,h⟩ hn hd
variable{a b:Expr}{ta tb:TE}{pos:Pos}
def PC(X:Cx)(op:CmpOp)(a b:Expr)(t:TE):Prop:=
 ∀(pins:List (Addr×Obj)) (s:Shared) (σ:St) (H:Hp) (Q:VK),Inv X pins σ H s→t σ H Q→
  wpAny (model X.prog X.w) X.A (eval a X.env) (fun v s₁=>wpAny (model X.prog X.w) X.A (eval b X.env) (fun u s₂=>wpAny (model X.prog X.w) X.A (compareOp op v u) (EP X pins σ Q) X.xe s₂) X.xe s₁) X.xe s
theorem By(b:Expr){op:CmpOp}(h:op≠ .In)(h2:op≠ .NotIn):behindInMarks op b=false:=by
 have e1:(op==CmpOp.In)=false:=by cases op<;>first | rfl | exact absurd rfl h
 have e2:(op==CmpOp.NotIn)=false:=by cases op<;>first | rfl | exact absurd rfl h2
 cases b<;>simp[behindInMarks,e1,e2]
theorem Hg{op:CmpOp}{t:TE}(h:PC X op a b t)(h1:behindInMarks op b=false:=by first | exact By _ (by decide) (by decide) | rfl):PE X (.Compare a [op] [b] pos) t:=fun pins s σ H Q I hw=>wpAny_Compare1 (h pins s σ H Q I hw) h1
variable{tA cY:TT}{rest:List Expr}
def Mu(t u:TT):TT:=fun σ H Q=>t σ H fun c H1=>if c=true then u σ H1 Q else Q false H1
def Py(t u:TT):TT:=fun σ H Q=>t σ H fun c H1=>if c=true then Q true H1 else u σ H1 Q
def MD(t:TT):TT:=fun σ H Q=>t σ H fun c H1=>Q (!c) H1
theorem EJ(ha:PT X a tA):PW X (.BoolOp .And [a] pos) tA:=by
 intro wh pins s σ H Q I h
 refine isTrue_and (bS (ha pins s σ H Q I h) fun c s1 e=>?_)
 cases c with
 |true=>exact isTrue_and_nil e
 |false=>exact e
theorem Hy(ha:PT X a tA):PW X (.BoolOp .Or [a] pos) tA:=by
 intro wh pins s σ H Q I h
 refine isTrue_or (bS (ha pins s σ H Q I h) fun c s1 e=>?_)
 cases c with
 |false=>exact isTrue_or_nil e
 |true=>exact e
theorem Hx(ha:PT X a tA)(hb:PW X (.BoolOp .And (b::rest) pos) cY):PW X (.BoolOp .And (a::b::rest) pos) (Mu tA cY):=by
 intro wh pins s σ H Q I h
 refine isTrue_and (bS (ha pins s σ H _ I h) fun c s1 ⟨H1,I1,q1⟩=>?_)
 cases c with
 |true=>exact hb wh pins s1 σ H1 Q I1 q1
 |false=>exact⟨H1,I1,q1⟩
theorem JU(ha:PT X a tA)(hb:PW X (.BoolOp .Or (b::rest) pos) cY):PW X (.BoolOp .Or (a::b::rest) pos) (Py tA cY):=by
 intro wh pins s σ H Q I h
 refine isTrue_or (bS (ha pins s σ H _ I h) fun c s1 ⟨H1,I1,q1⟩=>?_)
 cases c with
 |true=>exact⟨H1,I1,q1⟩
 |false=>exact hb wh pins s1 σ H1 Q I1 q1
theorem Hv(ha:PT X a tA):PT X (.UnaryOp .Not a pos) (MD tA):=by
 intro pins s σ H Q I h
 exact isTrue_not (ha pins s σ H (fun c H1=>Q (!c) H1) I h)
def Kc(ta tb:TE):TE:=fun σ H Q=>ta σ H fun x H1=>∃c,x= .bl c∧if c=true then tb σ H1 Q else Q (.bl false) H1
def Kg(ta:TE):TE:=fun σ H Q=>ta σ H fun x H1=>∃c,x= .bl c∧Q (.bl (!c)) H1
theorem Hk{op}{t:TE}(h:PE X a t):PE X (.BoolOp op [a] pos) t:=fun pins s σ H Q I hw=>BoolOp_one (h pins s σ H Q I hw)
theorem Hf(ha:PE X a ta)(hb:PE X (.BoolOp .And (b::rest) pos) tb):PE X (.BoolOp .And (a::b::rest) pos) (Kc ta tb):=by
 intro pins s σ H Q I h
 refine BoolOp_and (bS (ha pins s σ H _ I h) fun v s1 ⟨x,H1,I1,r1,q1⟩=>?_)
 obtain⟨c,rfl,q1⟩:=q1
 cases r1
 refine wpAny_truthy_bool ?_
 cases c with
 |true=>exact hb pins s1 σ H1 Q I1 q1
 |false=>exact⟨.bl false,H1,I1,rfl,q1⟩
theorem Hj(ha:PE X a ta):PE X (.UnaryOp .Not a pos) (Kg ta):=by
 intro pins s σ H Q I h
 refine UnaryOp_ (bS (ha pins s σ H _ I h) fun v s1 ⟨x,H1,I1,r1,q1⟩=>?_)
 obtain⟨c,rfl,q1⟩:=q1
 cases r1
 exact not_of (wpAny_truthy_bool ⟨.bl (!c),H1,I1,rfl,q1⟩)
end
def SqL(K:W.Frag)(H:Hp)(a:Addr)(xs:List V):Prop:=
 Rd H a (.lst xs)∨
  ∃(o:Obj) (aG:Array Value) (n:Nat),K.lookup a=some o∧o.cls= .type "list"∧o.dict=none∧o.data= .seq aG n∧aG.size≤sizeLine∧Vals xs aG.toList
def SqT(K:W.Frag)(H:Hp)(a:Addr)(xs:List V):Prop:=
 Rd H a (.tup xs)∨
  ∃(o:Obj) (aG:Array Value) (n:Nat),K.lookup a=some o∧o.cls= .type "tuple"∧o.data= .seq aG n∧aG.size≤sizeLine∧Vals xs aG.toList
def Ld:Value→Option V
 | .none=>some .non
 | .bool b=>some (.bl b)
 | .int i _=>some (.int i)
 | .str x _=>some (.str x)
 | .bytes b _=>some (.byt b)
 | .float b _=>some (.flt b)
 | .ref a=>some (.ref a)
 | .type n=>some (.ty n)
 |_=>none
theorem RelV.abs{x:V}{u:Value}(r:RelV x u):Ld u=some x:=by
 cases x with
 |non=>cases r;rfl
 |bl _=>cases r;rfl
 |int _=>obtain⟨t,rfl⟩:=r;rfl
 |str _=>obtain⟨t,rfl⟩:=r;rfl
 |byt _=>obtain⟨t,rfl⟩:=r;rfl
 |flt _=>obtain⟨t,rfl⟩:=r;rfl
 |ref _=>cases r;rfl
 |ty _=>cases r;rfl
theorem RelV.inj{x y:V}{u:Value}(r:RelV x u)(q:RelV y u):x=y:=Option.some.inj (r.abs.symm.trans q.abs)
theorem Vals.inj:∀{xs ys:List V}{us:List Value},Vals xs us→Vals ys us→xs=ys
 |_,_,_, .nil, .nil=>rfl
 |_,_,_, .cons r t, .cons r' t'=>by rw[r.inj r',Vals.inj t t']
section
variable{X:Cx}{pins:List (Addr×Obj)}{σ:St}{H:Hp}{s:Shared}{a:Addr}{xs ys:List V}
theorem SqL.of{K:W.Frag}(h:H a=some (.lst xs)):SqL K H a xs:= .inl (.inl h)
theorem SqT.of{K:W.Frag}(h:H a=some (.tup xs)):SqT K H a xs:= .inl (.inl h)
theorem Inv.list(I:Inv X pins σ H s)(h:SqL X.K H a xs):∃aG:List Value,Vals xs aG∧PlainL s.heap a aG.toArray∧xs.length≤sizeLine:=by
 rcases h with h | ⟨o,aG,n,hk,hc,hd,hs,hz,r⟩
 ·obtain⟨z,aG,n,r,e⟩:=h.ok I.hok
  exact⟨aG,r,⟨_,n,e,rfl,rfl,rfl⟩,z⟩
 ·refine⟨aG.toList,r,⟨o,n,I.kIn a o hk,hc,hd,by simpa using hs⟩,?_⟩
  have e:=r.length
  simp only[Array.length_toList] at e
  omega
theorem Inv.tuple(I:Inv X pins σ H s)(h:SqT X.K H a xs):∃aG:List Value,Vals xs aG∧IsTup s.heap a aG.toArray∧xs.length≤sizeLine:=by
 rcases h with h | ⟨o,aG,n,hk,hc,hs,hz,r⟩
 ·obtain⟨z,aG,r,p⟩:=h.ok I.hok
  exact⟨aG,r,p,z⟩
 ·refine⟨aG.toList,r,⟨o,I.kIn a o hk,hc,n,by simpa using hs⟩,?_⟩
  have e:=r.length
  simp only[Array.length_toList] at e
  omega
theorem Inv.list_inj(I:Inv X pins σ H s)(h:SqL X.K H a xs)(h':SqL X.K H a ys):xs=ys:=by
 obtain⟨aG,r,⟨o,n,e,_,_,d⟩,_⟩:=I.list h
 obtain⟨its',r',⟨o',n',e',_,_,d'⟩,_⟩:=I.list h'
 rw[e] at e';cases e'
 rw[d] at d'
 injection d' with d1 _
 have:aG=its':=by simpa using congrArg Array.toList d1
 subst this
 exact r.inj r'
theorem Inv.tuple_inj(I:Inv X pins σ H s)(h:SqT X.K H a xs)(h':SqT X.K H a ys):xs=ys:=by
 obtain⟨aG,r,⟨o,e,_,n,d⟩,_⟩:=I.tuple h
 obtain⟨its',r',⟨o',e',_,n',d'⟩,_⟩:=I.tuple h'
 rw[e] at e';cases e'
 rw[d] at d'
 injection d' with d1 _
 have:aG=its':=by simpa using congrArg Array.toList d1
 subst this
 exact r.inj r'
end
abbrev Cx.wish(X:Cx)(E:Value→Shared→Prop):Cx:={X with xe:=E}
abbrev Cx.nox(X:Cx):Cx:=X.wish fun _ _=>False
theorem Cx.Ok.wish{X:Cx}(ok:X.Ok)(E:Value→Shared→Prop):(X.wish E).Ok:=
 ⟨ok.mod,ok.kind,ok.glob,ok.blt,ok.above,ok.inj,ok.has,ok.cab,ok.hd,ok.frames,ok.stk,ok.exf,ok.bs,ok.bsz,ok.noex,ok.exfs,ok.funs,ok.frf⟩
theorem Cx.Ok.unwish{X:Cx}{E:Value→Shared→Prop}(ok:(X.wish E).Ok):X.Ok:=
 ⟨ok.mod,ok.kind,ok.glob,ok.blt,ok.above,ok.inj,ok.has,ok.cab,ok.hd,ok.frames,ok.stk,ok.exf,ok.bs,ok.bsz,ok.noex,ok.exfs,ok.funs,ok.frf⟩
section
variable{X:Cx}{pins:List (Addr×Obj)}{σ:St}{H:Hp}{s:Shared}{E:Value→Shared→Prop}
theorem Inv.wish(I:Inv X pins σ H s)(E:Value→Shared→Prop):Inv (X.wish E) pins σ H s:=⟨I.ok.wish E,I.os,I.bare,I.base,I.loc,I.cell,I.free,I.freeC,I.pin,I.hok,I.len⟩
theorem Inv.unwish(I:Inv (X.wish E) pins σ H s):Inv X pins σ H s:=⟨I.ok.unwish,I.os,I.bare,I.base,I.loc,I.cell,I.free,I.freeC,I.pin,I.hok,I.len⟩
theorem SP.unwish{D:Ends}{f:Flow}{s':Shared}(h:SP (X.wish E) pins D f s'):SP X pins D f s':=by
 cases f with
 |next=>obtain⟨σ',H',I,q⟩:=h;exact⟨σ',H',I.unwish,q⟩
 |brk=>obtain⟨σ',H',I,q⟩:=h;exact⟨σ',H',I.unwish,q⟩
 |cont=>obtain⟨σ',H',I,q⟩:=h;exact⟨σ',H',I.unwish,q⟩
 |ret u=>obtain⟨v,σ',H',I,r,q⟩:=h;exact⟨v,σ',H',I.unwish,r,q⟩
theorem PE.nox{e:Expr}{t:TE}(h:PE X.nox e t):PE X e t:=fun pins s σ H Q I hw=>
 wpAny_mono (h pins s σ H Q (I.wish _) hw) (fun _ _ ⟨v,H',I',r,q⟩=>⟨v,H',I'.unwish,r,q⟩) fun _ _ z=>False.elim z
theorem PT.nox{e:Expr}{t:TT}(h:PT X.nox e t):PT X e t:=fun pins s σ H Q I hw=>
 wpAny_mono (h pins s σ H Q (I.wish _) hw) (fun _ _ ⟨H',I',q⟩=>⟨H',I'.unwish,q⟩) fun _ _ z=>False.elim z
theorem PSs.nox{st:List Stmt}{t:TS}(h:PSs X.nox st t):PSs X st t:=fun pins s σ H D I hw=>
 wpAny_mono (h pins s σ H D (I.wish _) hw) (fun _ _ q=>q.unwish) fun _ _ z=>False.elim z
end
section
variable{X:Cx}{st:Stmt}{rest:List Stmt}{t u:TS}{e:Expr}{te:TE}{pos:Pos}
def Kf:TS:=fun D σ H=>D.nx σ H
def MF(t u:TS):TS:=fun D σ H=>t {D with nx:=u D} σ H
theorem EF:PSs X [] Kf:=fun _ _ σ H _ I h=>wpAny_execs_nil ⟨σ,H,I,h⟩
theorem Cd(h1:PS X st t)(h2:PSs X rest u):PSs X (st::rest) (MF t u):=by
 intro pins s σ H D I h
 refine wpAny_execs_cons (bS (h1 pins s σ H {D with nx:=u D} I h) fun f s1 q=>?_)
 cases f with
 |next=>
  obtain⟨σ',H',I',q⟩:=q
  exact h2 pins s1 σ' H' D I' q
 |ret v=>exact q
 |brk=>exact q
 |cont=>exact q
theorem EG(h1:PS X st t):PSs X [st] t:=by
 intro pins s σ H D I h
 refine wpAny_execs_cons (bS (h1 pins s σ H D I h) fun f s1 q=>?_)
 cases f with
 |next=>exact wpAny_execs_nil q
 |ret v=>exact q
 |brk=>exact q
 |cont=>exact q
theorem Inv.quiet{pins:List (Addr×Obj)}{σ:St}{H:Hp}{s:Shared}(I:Inv X pins σ H s):interactive X.env=false:=by simp[interactive,I.ok.kind]
def CQ(te:TE):TS:=fun D σ H=>te σ H fun _ H1=>D.nx σ H1
theorem mJ(he:PE X e te)(hs:swapsWith e none pos.line X.env=pure false:=by rfl):PS X (.Expr e pos) (CQ te):=by
 intro pins s σ H D I h
 exact wpAny_Expr_any (bS (he pins s σ H _ I h) fun v s1 ⟨x,H1,I1,r1,q1⟩=>⟨σ,H1,I1,q1⟩) I.quiet hs
def ME(te:TE):TS:=fun D σ H=>te σ H D.rt
theorem Hu(he:PE X e te):PS X (.Return (some e) pos) (ME te):=by
 intro pins s σ H D I h
 exact wpAny_Return_some (bS (he pins s σ H _ I h) fun v s1 ⟨x,H1,I1,r1,q1⟩=>⟨x,σ,H1,I1,r1,q1⟩)
def MB(c:TT)(t u:TS):TS:=fun D σ H=>c σ H fun b H1=>if b=true then t D σ H1 else u D σ H1
theorem JR{c:Expr}{a b:List Stmt}{tc:TT}(hc:PT X c tc)(ha:PSs X a t)(hb:PSs X b u):PS X (.If c a b pos) (MB tc t u):=by
 intro pins s σ H D I h
 refine wpAny_If (bS (hc pins s σ H _ I h) fun d s1 ⟨H1,I1,q1⟩=>?_)
 cases d with
 |true=>exact ha pins s1 σ H1 D I1 q1
 |false=>exact hb pins s1 σ H1 D I1 q1
end
abbrev TG:=V→St→Hp→(St→Hp→Prop)→Prop
abbrev Fb:=List V→St→Hp→(St→Hp→Prop)→Prop
def PG(X:Cx)(target:Expr)(t:TG):Prop:=
 ∀(pins:List (Addr×Obj)) (s:Shared) (σ:St) (H:Hp) (v:V) (u:Value) (Q:St→Hp→Prop),Inv X pins σ H s→RelV v u→t v σ H Q→
  wpAny (model X.prog X.w) X.A (assign target X.env u) (fun _ s'=>∃σ' H',Inv X pins σ' H' s'∧Q σ' H') X.xe s
def Ko(X:Cx)(ts:List Expr)(t:Fb):Prop:=
 ∀(pins:List (Addr×Obj)) (s:Shared) (σ:St) (H:Hp) (vs:List V) (us:List Value) (Q:St→Hp→Prop),Inv X pins σ H s→Vals vs us→t vs σ H Q→
  wpAny (model X.prog X.w) X.A (assignInOrder ((assignEach ts X.env).map (·.2)) us) (fun _ s'=>∃σ' H',Inv X pins σ' H' s'∧Q σ' H') X.xe s
abbrev K_:=V→V→V→Hp→(Hp→Prop)→Prop
section
variable{X:Cx}{pos:Pos}
def AZ(i:Nat):TG:=fun v σ H Q=>Q (σ.set i (some v)) H
theorem bx{i:Nat}{x:Str}(hN:X.N.Nodup)(hi:X.N[i]? =some x)(hx:Loc X.env.scope x)(hf:X.fn x=true∨X.env.scope.names.lookup x=some .local:=by first | exact .inl rfl | exact .inr rfl | assumption):PG X (.Name x pos) (AZ i):=by
 intro pins s σ H v u Q I r h
 exact wpAny_assign_Name (vv I hN hi hx r (fun s' I'=>⟨_,H,I',h⟩) hf)
def IJ:Fb:=fun vs σ H Q=>vs=[]∧Q σ H
def Fp(t:TG)(u:Fb):Fb:=fun vs σ H Q=>∃v r,vs=v::r∧t v σ H fun σ' H'=>u r σ' H' Q
theorem yo:Ko X [] IJ:=by
 intro pins s σ H vs us Q I r h
 obtain⟨e,h⟩:=h
 subst e
 cases r
 exact assignInOrder_nil ⟨σ,H,I,h⟩
theorem jW{e:Expr}{es:List Expr}{t:TG}{u:Fb}(h1:PG X e t)(h2:Ko X es u)
 (hs:(assignEach (e::es) X.env).map (·.2)=assign e X.env::(assignEach es X.env).map (·.2):=by rfl):Ko X (e::es) (Fp t u):=by
 intro pins s σ H vs us Q I r h
 obtain⟨v,vr,e1,h⟩:=h
 subst e1
 cases r with
 |cons r rr=>
  rw[hs]
  refine assignInOrder_cons (bS (h1 pins s σ H _ _ _ I r h) fun _ s1 ⟨σ1,H1,I1,q1⟩=>?_)
  exact h2 pins s1 σ1 H1 _ _ Q I1 rr q1
def IK(K:W.Frag)(n:Nat)(t:Fb):TG:=fun v σ H Q=>∃a xs,v= .ref a∧SqT K H a xs∧xs.length=n∧t xs σ H Q
theorem B7{es:List Expr}{k:Nat}{t:Fb}{n:Nat}(hc:X.calm=true)(h:Ko X es t)
 (hn:(assignEach es X.env).length=n:=by rfl)(za:(assignEach es X.env).findIdx? (·.1)=none:=by rfl):PG X (.Tuple es k pos) (IK X.K n t):=by
 intro pins s σ H v u Q I r hw
 obtain⟨a,xs,e1,hq,hl,hw⟩:=hw
 subst e1
 cases r
 obtain⟨aG,rv,ht,hz⟩:=I.tuple hq
 refine assign_Tuple_tuple (I.ok.hd hc) ht (by simp[hn,←hl,rv.length]) za fun h' hx=>?_
 have I1:Inv X pins σ H {s with heap:=h'}:=I.kept (t':=s.toks) fun b o e=>hx b o (Nat.ne_of_lt (Heap.lt_size e)) e
 exact h pins _ σ H xs _ Q I1 (by simpa using rv) hw
def kz(to ti:TE)(t:K_):TG:=fun v σ H Q=>to σ H fun o H1=>ti σ H1 fun i H2=>t o i v H2 fun H3=>Q σ H3
def Mv(te:TE)(g:TG):TS:=fun D σ H=>te σ H fun x H1=>g x σ H1 D.nx
theorem sH{tg e:Expr}{te:TE}{g:TG}(he:PE X e te)(hg:PG X tg g)(hs:swapsWithSole [tg] e pos.line X.env=pure false:=by rfl)(hw:swappedStores [tg] e X.env=pure none:=by rfl)
 (h1:(assignEach [tg] X.env).map (·.2)=[assign tg X.env]:=by rfl):PS X (.Assign [tg] e pos) (Mv te g):=by
 intro pins s σ H D I h
 refine wpAny_Assign_stores (bS (he pins s σ H _ I h) fun v s1 ⟨x,H1,I1,r1,q1⟩=>?_) hs hw
 rw[h1]
 exact bS (hg pins s1 σ H1 x v _ I1 r1 q1) fun _ s2 q=>q
end
section
variable{X:Cx}{pos:Pos}
def HQ(c:TT)(tb:TS):TS:=fun D σ H=>∃W:Nat→St→Hp→Prop,(∃m,W m σ H)∧∀m σ H,W m σ H→
 c σ H fun b H1=>if b=true then∃N:St→Hp→Prop,(∀σ' H',N σ' H'→∃m',m'<m∧W m' σ' H')∧tb {D with nx:=N,ct:=N,bk:=D.nx} σ H1 else D.nx σ H1
theorem Cb{c:Expr}{body:List Stmt}{tc:TT}{tb:TS}(hp:PassesOwn (model X.prog X.w) X.A X.env X.xe)(hc:PT X c tc)(hb:PSs X body tb):PS X (.While c body [] pos) (HQ tc tb):=by
 intro pins s σ H D I h
 obtain⟨W,⟨m0,w0⟩,turn⟩:=h
 refine wpAny_While (codeAny_whileLoop (fun n s'=>∃σ' H',Inv X pins σ' H' s'∧W n σ' H') ?_ m0 ⟨σ,H,I,w0⟩)
 rintro n s1 ⟨σ1,H1,I1,w1⟩
 refine wpAny_passesOwn hp (bS (hc pins s1 σ1 H1 _ I1 (turn n σ1 H1 w1)) fun b s2 ⟨H2,I2,q2⟩=>?_)
 cases b with
 |true=>
  obtain⟨N,hN,q2⟩:=q2
  rw[if_pos rfl]
  refine wpAny_passesOwn hp (bS (hb pins s2 σ1 H2 _ I2 q2) fun f s3 q3=>?_)
  cases f with
  |next=>
   obtain⟨σ3,H3,I3,n3⟩:=q3
   obtain⟨m',hm,w3⟩:=hN σ3 H3 n3
   exact⟨m',hm,σ3,H3,I3,w3⟩
  |cont=>
   obtain⟨σ3,H3,I3,n3⟩:=q3
   obtain⟨m',hm,w3⟩:=hN σ3 H3 n3
   exact⟨m',hm,σ3,H3,I3,w3⟩
  |brk=>exact q3
  |ret v=>exact q3
 |false=>
  rw[if_neg Bool.false_ne_true]
  exact wpAny_execs_nil ⟨σ1,H2,I2,q2⟩
end
structure It where
 go:Nat→Hp→Prop
 yld:Nat→Hp→V→Hp→Prop
 stop:Nat→Hp→Prop
def o_(X:Cx)(pins:List (Addr×Obj))(H:Hp)(b:Addr):Prop:=
 H b=none∧b≠X.env.locals∧b∉X.fs∧(b∈X.ex∨X.s₀.heap.objs.size≤b)∧(∀x c,X.env.cells.lookup x=some c→c≠b)∧∀p∈X.pn++pins,p.1≠b
theorem Inv.fpOk{X:Cx}{pins:List (Addr×Obj)}{σ:St}{H H':Hp}{s:Shared}{b:Addr}(I:Inv X pins σ H s)(hb:s.heap.objs.size≤b)(hn:H' b=none):o_ X pins H' b:=by
 refine⟨hn,Nat.ne_of_gt (Nat.lt_of_lt_of_le I.lt hb),I.nofs hb, .inr (Nat.le_trans I.sz hb),fun x c e z=>?_,fun p hp z=>?_⟩
 ·obtain⟨v,q⟩:=I.cell x c e
  exact absurd (Nat.lt_of_lt_of_le q.lt (by rw[z];exact hb)) (Nat.lt_irrefl _)
 ·exact absurd (Nat.lt_of_lt_of_le (Heap.lt_size (I.pin p hp).1) (by rw[z];exact hb)) (Nat.lt_irrefl _)
structure Turn (P:Program) (w:World) (K:W.Frag) (tg:Expr) (J:It) (fp:List Addr) (it:Addr) (tn:Nat→Heap→Prop):Prop where
 mem:it∈fp
 obj:∀i h,tn i h→∀b∈fp,∃o,h.get? b=some o∧∀v,o.data≠ .cell v
 keep:∀i h h',tn i h→(∀b∈fp,∀o,h.get? b=some o→h'.get? b=some o)→tn i h'
 item:∀(X:Cx),X.prog=P→X.w=w→X.K=K→X.calm=true→∀(i:Nat) (pins:List (Addr×Obj)) (s:Shared) (σ:St) (H:Hp) (E:Value→Shared→Prop),Inv X pins σ H s→(∀b∈fp,o_ X pins H b)→tn i s.heap→J.go i H→
  wpAny (model P w) X.A (pyNext (.ref it)) (fun r s1=>∃u,r=some u∧
   wpAny (model P w) X.A (letOwnedTupleGo tg (.ref it) u) (fun _ s2=>∃x H',Inv X pins σ H' s2∧RelV x u∧J.yld i H x H'∧tn (i+1) s2.heap∧∀b∈fp,H' b=none) E s1) E s
 done:∀(X:Cx),X.prog=P→X.w=w→X.K=K→X.calm=true→∀(i:Nat) (pins:List (Addr×Obj)) (s:Shared) (σ:St) (H:Hp) (E:Value→Shared→Prop),Inv X pins σ H s→(∀b∈fp,o_ X pins H b)→tn i s.heap→J.stop i H→
  wpAny (model P w) X.A (pyNext (.ref it)) (fun r s1=>r=none∧Inv X pins σ H s1) E s
 self:∀(A:Around) (i:Nat) (s:Shared) (Q:Value→Shared→Prop) (E:Value→Shared→Prop),tn i s.heap→Q (.ref it) s→wpAny (model P w) A (pyIter (.ref it)) Q E s
abbrev TI:=St→Hp→(It→Hp→Prop)→Prop
def MR(X:Cx)(pins:List (Addr×Obj))(σ:St)(tg:Expr)(R:It→Hp→Prop)(NG:Value)(s2:Shared):Prop:=
 ∃(it:Addr) (fp:List Addr) (tn:Nat→Heap→Prop) (J:It) (H':Hp),NG= .ref it∧Inv X pins σ H' s2∧Turn X.prog X.w X.K tg J fp it tn∧tn 0 s2.heap∧(∀b∈fp,o_ X pins H' b)∧R J H'
def PI(X:Cx)(tg iter:Expr)(wi:TI):Prop:=
 ∀(pins:List (Addr×Obj)) (s:Shared) (σ:St) (H:Hp) (R:It→Hp→Prop),Inv X pins σ H s→wi σ H R→
  wpAny (model X.prog X.w) X.A (eval iter X.env) (fun v s1=>wpAny (model X.prog X.w) X.A (pyIter v) (MR X pins σ tg R) X.xe s1) X.xe s
theorem qb{M:Model}{A:Around}{E:Value→Shared→Prop}{s:Shared}{tg:Expr}{it:Addr}{u:Value}{o:Obj}{n:String}{vs:Array Value}{Q:Unit→Shared→Prop}(ho:s.heap.get? it=some o)(hc:o.cls= .type n)(hd:o.data= .fields vs)
 (hn:["enumerate","zip","dict_itemiterator","dict_reverseitemiterator","odict_iterator","itertools.zip_longest","itertools.pairwise"].contains n=false)(hQ:Q () s):wpAny M A (letOwnedTupleGo tg (.ref it) u) Q E s:=by
 unfold letOwnedTupleGo
 cases tg<;>first
  |exact wpAny_pure hQ
  |(cases u<;>first
    |exact wpAny_pure hQ
    |(refine wpAny_bind (wpAny_load ho ?_)
      rw[hc,hd]
      show wpAny M A (if (["enumerate","zip","dict_itemiterator","dict_reverseitemiterator","odict_iterator","itertools.zip_longest","itertools.pairwise"].contains n&&vs[0]? ==some (rawInt _))=true then _ else _) Q E s
      rw[if_neg (by intro h;rw[hn,Bool.false_and] at h;cases h)]
      exact wpAny_pure hQ))
def K6(K:W.Frag)(a:Addr):It:=
 ⟨fun i H=>∃xs x,SqL K H a xs∧xs[i]? =some x,fun i H x H'=>H'=H∧∀xs,SqL K H a xs→xs[i]? =some x,fun i H=>∃xs,SqL K H a xs∧xs.length≤i⟩
def K7(K:W.Frag)(a:Addr):It:=
 ⟨fun i H=>∃xs x,SqT K H a xs∧xs[i]? =some x,fun i H x H'=>H'=H∧∀xs,SqT K H a xs→xs[i]? =some x,fun i H=>∃xs,SqT K H a xs∧xs.length≤i⟩
def Ik(lo:Int)(n:Nat):It:=⟨fun i _=>i<n,fun i H x H'=>H'=H∧x= .int (lo+i),fun i _=>n≤i⟩
theorem zX{P:Program}{w:World}{K:W.Frag}{tg:Expr}(a it:Addr):Turn P w K tg (K6 K a) [it] it (fun i h=>h.IsListIter it a i) where
 mem:=by simp
 obj:=fun i h st b hb=>by
  have e:b=it:=by simpa using hb
  subst e
  obtain⟨o,e,c,d⟩:=st
  exact⟨o,e,fun v z=>by rw[d] at z;cases z⟩
 keep:=fun i h h' st k=>st.at fun o e=>k it (by simp) o e
 item:=by
  intro X hP hw hK hc i pins s σ H E I hf st hg
  subst hP hw hK
  obtain⟨xs,x,hq,hx⟩:=hg
  obtain⟨aG,rv,p,hz⟩:=I.list hq
  obtain⟨u,hu,ru⟩:=rv.get hx
  obtain⟨f0,f1,f2,f3,f4,f5⟩:=hf it (by simp)
  refine wpAny_pyNext_list_item st p.isList (x:=u) (by simpa using hu) fun h' oR sb=>?_
  have I1:Inv X pins σ H {s with heap:=h'}:=I.turned (t':=s.toks) (fun b o hb e=>(sb.2 b hb).trans e) f0 f1 f3 f4 f5
  obtain⟨o,e,c,d⟩:=id oR
  exact⟨u,rfl,qb (s:={s with heap:=h'}) e c d (by decide) ⟨x,H,I1,ru,⟨rfl,fun ys hy=>by rw[I.list_inj hy hq];exact hx⟩,oR,fun b hb=>(hf b hb).1⟩⟩
 done:=by
  intro X hP hw hK hc i pins s σ H E I hf st hg
  subst hP hw hK
  obtain⟨xs,hq,hx⟩:=hg
  obtain⟨aG,rv,p,hz⟩:=I.list hq
  obtain⟨f0,f1,f2,f3,f4,f5⟩:=hf it (by simp)
  have hl:=rv.length
  exact wpAny_pyNext_list_end (I.ok.hd hc) st p.isList (by simp;omega) fun h' eb=>⟨rfl,I.turned (t':=s.toks) (fun b o hb e=>eb b o hb e) f0 f1 f3 f4 f5⟩
 self:=fun _ _ _ _ _ st h=>wpAny_pyIter_listiter st h
theorem xj{P:Program}{w:World}{K:W.Frag}{tg:Expr}(a it:Addr):Turn P w K tg (K7 K a) [it] it (fun i h=>h.IsTupleIter it a i) where
 mem:=by simp
 obj:=fun i h st b hb=>by
  have e:b=it:=by simpa using hb
  subst e
  obtain⟨o,e,c,d⟩:=st
  exact⟨o,e,fun v z=>by rw[d] at z;cases z⟩
 keep:=fun i h h' st k=>st.at fun o e=>k it (by simp) o e
 item:=by
  intro X hP hw hK hc i pins s σ H E I hf st hg
  subst hP hw hK
  obtain⟨xs,x,hq,hx⟩:=hg
  obtain⟨aG,rv,p,hz⟩:=I.tuple hq
  obtain⟨u,hu,ru⟩:=rv.get hx
  obtain⟨f0,f1,f2,f3,f4,f5⟩:=hf it (by simp)
  refine wpAny_pyNext_tuple_item st (show s.heap.IsTuple a aG.toArray from p) (x:=u) (by simpa using hu) fun h' oR sb=>?_
  have I1:Inv X pins σ H {s with heap:=h'}:=I.turned (t':=s.toks) (fun b o hb e=>(sb.2 b hb).trans e) f0 f1 f3 f4 f5
  obtain⟨o,e,c,d⟩:=id oR
  exact⟨u,rfl,qb (s:={s with heap:=h'}) e c d (by decide) ⟨x,H,I1,ru,⟨rfl,fun ys hy=>by rw[I.tuple_inj hy hq];exact hx⟩,oR,fun b hb=>(hf b hb).1⟩⟩
 done:=by
  intro X hP hw hK hc i pins s σ H E I hf st hg
  subst hP hw hK
  obtain⟨xs,hq,hx⟩:=hg
  obtain⟨aG,rv,p,hz⟩:=I.tuple hq
  obtain⟨f0,f1,f2,f3,f4,f5⟩:=hf it (by simp)
  have hl:=rv.length
  exact wpAny_pyNext_tuple_end (I.ok.hd hc) st (show s.heap.IsTuple a aG.toArray from p) (by simp;omega) fun h' eb=>⟨rfl,I.turned (t':=s.toks) (fun b o hb e=>eb b o hb e) f0 f1 f3 f4 f5⟩
 self:=fun _ _ _ _ _ st h=>wpAny_pyIter_tupleiter st h
theorem xi{P:Program}{w:World}{K:W.Frag}{tg:Expr}(it:Addr)(lo:Int)(n:Nat):Turn P w K tg (Ik lo n) [it] it (fun i h=>IsRangeIter h it (lo+(i:Nat)*1) ((n:Int) - (i:Nat)) 1) where
 mem:=by simp
 obj:=fun i h st b hb=>by
  have e:b=it:=by simpa using hb
  subst e
  exact⟨_,st,fun v z=>by
   have z':Data.fields _=Data.cell v:=z
   cases z'⟩
 keep:=fun i h h' st k=>k it (by simp) _ st
 item:=by
  intro X hP hw hK hc i pins s σ H E I hf st hg
  subst hP hw hK
  obtain⟨f0,f1,f2,f3,f4,f5⟩:=hf it (by simp)
  have W:=Walks.range (prog:=X.prog) (w:=X.w) (I.ok.hd hc) it lo 1 n
  refine W.item i s _ _ hg st fun v h' tk hv oR kk=>?_
  obtain⟨t,rfl⟩:=hv
  have I1:Inv X pins σ H {s with heap:=h',toks:=tk}:=I.turned (fun b o hb e=>kk b o (by simpa using hb) e) f0 f1 f3 f4 f5
  refine⟨_,rfl,qb (s:={s with heap:=h',toks:=tk}) (n:="range_iterator") oR rfl rfl (by decide) ⟨.int (lo+i),H,I1,⟨t,?_⟩,⟨rfl,rfl⟩,oR,fun b hb=>(hf b hb).1⟩⟩
  rw[Int.mul_one]
 done:=by
  intro X hP hw hK hc i pins s σ H E I hf st hg
  subst hP hw hK
  obtain⟨f0,f1,f2,f3,f4,f5⟩:=hf it (by simp)
  exact wpAny_pyNext_range_end (I.ok.hd hc) st (by have:n≤i:=hg;omega) fun h' eb=>⟨rfl,I.turned (t':=s.toks) (fun b o hb e=>eb b o hb e) f0 f1 f3 f4 f5⟩
 self:=fun _ _ _ _ _ st h=>wpAny_pyIter_rangeiter st h
section
variable{X:Cx}{tg:Expr}
def Js(K:W.Frag)(tl:TE):TI:=fun σ H R=>tl σ H fun x H1=>∃a,x= .ref a∧(∃xs,SqL K H1 a xs)∧R (K6 K a) H1
def L9(K:W.Frag)(tl:TE):TI:=fun σ H R=>tl σ H fun x H1=>∃a,x= .ref a∧(∃xs,SqT K H1 a xs)∧R (K7 K a) H1
theorem Ex{l:Expr}{tl:TE}(hl:PE X l tl):PI X tg l (Js X.K tl):=by
 intro pins s σ H R I h
 refine bS (hl pins s σ H _ I h) fun v s1 ⟨x,H1,I1,r1,q1⟩=>?_
 obtain⟨a,e,⟨xs,hq⟩,q⟩:=q1
 subst e
 cases r1
 obtain⟨aG,rv,p,hz⟩:=I1.list hq
 refine wpAny_pyIter_list p.isList ?_
 refine⟨s1.heap.objs.size,[s1.heap.objs.size],_,_,H1,rfl,I1.kept (t':=s1.toks) fun b o e=>Heap.get?_push_of_some _ e,zX a _,⟨_,Heap.get?_push_size _ rfl,rfl,rfl⟩,fun b hb=>?_,q⟩
 have e:b=s1.heap.objs.size:=by simpa using hb
 subst e
 exact I1.fpOk (Nat.le_refl _) (I1.hok.fresh (Nat.le_refl _))
theorem Hs{l:Expr}{tl:TE}(hl:PE X l tl):PI X tg l (L9 X.K tl):=by
 intro pins s σ H R I h
 refine bS (hl pins s σ H _ I h) fun v s1 ⟨x,H1,I1,r1,q1⟩=>?_
 obtain⟨a,e,⟨xs,hq⟩,q⟩:=q1
 subst e
 cases r1
 obtain⟨aG,rv,p,hz⟩:=I1.tuple hq
 refine wpAny_pyIter_tuple (show s1.heap.IsTuple a aG.toArray from p) ?_
 refine⟨s1.heap.objs.size,[s1.heap.objs.size],_,_,H1,rfl,I1.kept (t':=s1.toks) fun b o e=>Heap.get?_push_of_some _ e,xj a _,⟨_,Heap.get?_push_size _ rfl,rfl,rfl⟩,fun b hb=>?_,q⟩
 have e:b=s1.heap.objs.size:=by simpa using hb
 subst e
 exact I1.fpOk (Nat.le_refl _) (I1.hok.fresh (Nat.le_refl _))
theorem u6{pins:List (Addr×Obj)}{σ:St}{H:Hp}{s:Shared}{R:It→Hp→Prop}{E:Value→Shared→Prop}{lo hi:Int}{t u v:Tok}{tk:Nat}(I:Inv X pins σ H s)(h1: -(2 ^ 62)≤lo)(h2:lo<2 ^ 62)(h3: -(2 ^ 62)≤hi)(h4:hi<2 ^ 62)
 (q:R (Ik lo (hi - lo).toNat) H):wpAny (model X.prog X.w) X.A (pyIter (.ref s.heap.objs.size)) (MR X pins σ tg R) E {s with heap:=s.heap.push {cls:= .type "range",data:= .fields #[.int lo t, .int hi u, .int 1 v]},toks:=tk}:=by
 refine wpAny_pyIter_range (IsRange.new ..) (small_one h1 h2 h3 h4) ?_
 have I1:Inv X pins σ H {s with heap:=s.heap.push {cls:= .type "range",data:= .fields #[.int lo t, .int hi u, .int 1 v]},toks:=tk}:=I.kept fun b o e=>Heap.get?_push_of_some _ e
 refine⟨(s.heap.push {cls:= .type "range",data:= .fields #[.int lo t, .int hi u, .int 1 v]}).objs.size,[(s.heap.push {cls:= .type "range",data:= .fields #[.int lo t, .int hi u, .int 1 v]}).objs.size],_,_,H,rfl,
  I1.kept (t':=tk) fun b o e=>Heap.get?_push_of_some _ e,xi _ lo (hi - lo).toNat,?_,fun b hb=>?_,q⟩
 ·have e1:lo+((0:Nat):Int)*1=lo:=by simp
  have e2:(((hi - lo).toNat:Nat):Int) - ((0:Nat):Int)=Builtin.Range.rangeSize lo hi 1:=by rw[rangeSize_one];split<;>omega
  show IsRangeIter _ _ (lo+((0:Nat):Int)*1) ((((hi - lo).toNat:Nat):Int) - ((0:Nat):Int)) 1
  rw[e1,e2]
  exact Heap.get?_push_size _ rfl
 ·have e:b=(s.heap.push {cls:= .type "range",data:= .fields #[.int lo t, .int hi u, .int 1 v]}).objs.size:=by simpa using hb
  subst e
  exact I1.fpOk (Nat.le_refl _) (I1.hok.fresh (Nat.le_refl _))
def Jt(ta:TA):TI:=fun σ H R=>ta σ H fun vs H1=>∃j:Int,vs=[.int j]∧ -(2 ^ 62)≤j∧j<2 ^ 62∧R (Ik 0 j.toNat) H1
def Ju(ta:TA):TI:=fun σ H R=>ta σ H fun vs H1=>∃i j:Int,vs=[.int i, .int j]∧(-(2 ^ 62)≤i∧i<2 ^ 62∧ -(2 ^ 62)≤j∧j<2 ^ 62)∧R (Ik i (j - i).toNat) H1
theorem zK{a:Expr}{ta:TA}{p pos:Pos}(hg:Gl X "range")(hm:X.mg "range"=none)(ha:PA X [a] ta)(hs:starEach [a] X.env=[(false,eval a X.env)]:=by rfl):PI X tg (.Call (.Name "range" p) [a] [] pos) (Jt ta):=by
 intro pins s σ H R I h
 refine Call_ (gO I hg hm boot_range (PyProof.Rows.callWith_type1 (bS (ha pos pins s σ H _ I h) fun us s1 ⟨vs,H1,I1,r1,q1⟩=>?_) hs rfl))
 obtain⟨j,e,q1,q2,q⟩:=q1
 subst e
 cases r1 with
 |cons r rr=>
  cases rr
  obtain⟨t,rfl⟩:=r
  exact call_range_1 (u6 I1 (by omega) (by omega) q1 q2 (by simpa using q))
theorem zL{a b:Expr}{ta:TA}{p pos:Pos}(hg:Gl X "range")(hm:X.mg "range"=none)(ha:PA X [a,b] ta)(hs:starEach [a,b] X.env=[(false,eval a X.env),(false,eval b X.env)]:=by rfl)(KI:starEach [b] X.env=[(false,eval b X.env)]:=by rfl):
 PI X tg (.Call (.Name "range" p) [a,b] [] pos) (Ju ta):=by
 intro pins s σ H R I h
 refine Call_ (gO I hg hm boot_range (PyProof.Rows.callWith_type1 (bS (ha pos pins s σ H _ I h) fun us s1 ⟨vs,H1,I1,r1,q1⟩=>?_) (by rw[hs,KI]) (by rw[KI];rfl)))
 obtain⟨i,j,e,⟨q1,q2,q3,q4⟩,q⟩:=q1
 subst e
 cases r1 with
 |cons r rr=>
  cases rr with
  |cons r' rr=>
   cases rr
   obtain⟨t,rfl⟩:=r
   obtain⟨t',rfl⟩:=r'
   exact call_range_2 (u6 I1 q1 q2 q3 q4 q)
def MA(wi:TI)(g:TG)(tb:TS):TS:=fun D σ H=>wi σ H fun J H1=>∃W:Nat→Nat→St→Hp→Prop,(∃m,W 0 m σ H1)∧∀i m σ H,W i m σ H→
 (J.stop i H∧D.nx σ H)∨(J.go i H∧∃N:St→Hp→Prop,(∀σ' H',N σ' H'→∃m',m'<m∧W (i+1) m' σ' H')∧∀x H',J.yld i H x H'→g x σ H' fun σ2 H2=>tb {D with nx:=N,ct:=N,bk:=D.nx} σ2 H2)
def oA(fp:List Addr)(h:Heap):List (Addr×Obj):=fp.filterMap fun b=>(h.get? b).map fun o=>(b,o)
theorem gh{fp:List Addr}{h:Heap}{b:Addr}{o:Obj}(hb:b∈fp)(e:h.get? b=some o):(b,o)∈oA fp h:=List.mem_filterMap.mpr ⟨b,hb,by rw[e];rfl⟩
theorem zy{fp:List Addr}{h:Heap}{p:Addr×Obj}(hp:p∈oA fp h):p.1∈fp∧h.get? p.1=some p.2:=by
 obtain⟨b,hb,e⟩:=List.mem_filterMap.mp hp
 cases q:h.get? b with
 |none=>rw[q] at e;cases e
 |some o=>
  rw[q] at e
  have e':(b,o)=p:=Option.some.inj e
  subst e'
  exact⟨hb,q⟩
theorem Inv.pinned{pins:List (Addr×Obj)}{σ:St}{H:Hp}{s:Shared}{fp:List Addr}(I:Inv X pins σ H s)(hf:∀b∈fp,o_ X pins H b)(ho:∀b∈fp,∃o,s.heap.get? b=some o∧∀v,o.data≠ .cell v):Inv X (pins++oA fp s.heap) σ H s:=
 I.pins_of fun p hp=>(List.mem_append.mp hp).elim (fun z=>I.pin p (List.mem_append_right _ z)) fun z=>by
  obtain⟨hb,e⟩:=zy z
  obtain⟨f0,f1,f2,_⟩:=hf p.1 hb
  obtain⟨o,e',d⟩:=ho p.1 hb
  rw[e] at e';cases e'
  exact⟨e,f0,f1,f2,d⟩
theorem Inv.unpinned{pins pl:List (Addr×Obj)}{σ:St}{H:Hp}{s:Shared}(I:Inv X (pins++pl) σ H s):Inv X pins σ H s:=I.pins_of fun p hp=>I.pin p (List.mem_append_right _ (List.mem_append_left _ hp))
theorem Ht{iter:Expr}{body:List Stmt}{wi:TI}{g:TG}{tb:TS}{pos:Pos}(hp:PassesOwn (model X.prog X.w) X.A X.env X.xe)(hc:X.calm=true)(hi:PI X tg iter wi)(hg:PG X tg g)(hb:PSs X body tb)
 (hs:∀x,foldedSetIterable iter X.env x=pure x:=by intro _;rfl):PS X (.For tg iter body [] pos) (MA wi g tb):=by
 intro pins s σ H D I h
 refine wpAny_For (bS (hi pins s σ H _ I h) fun v s1 h1=>bS h1 fun NG s2 h2=>?_) hs
 obtain⟨it,fp,tn,J,H2,e,I2,T,xf,f2,W,⟨m0,w0⟩,turn⟩:=h2
 subst e
 have HM:∀{H':Hp},(∀b∈fp,H' b=none)→∀b∈fp,o_ X pins H' b:=fun hn b hb=>⟨hn b hb,(f2 b hb).2⟩
 refine codeAny_forLoop_any (fun n s'=>∃i σ' H',Inv X pins σ' H' s'∧tn i s'.heap∧(∀b∈fp,H' b=none)∧W i n σ' H') ?_ m0 ⟨0,σ,H2,I2,xf,fun b hb=>(f2 b hb).1,w0⟩
 rintro n s3 ⟨i,σ3,H3,I3,Ig,Ks,w3⟩
 rcases turn i n σ3 H3 w3 with⟨stop,qn⟩ | ⟨go,N,hN,step⟩
 ·refine wpAny_passesOwn hp (bS (T.done X rfl rfl rfl hc i pins s3 σ3 H3 X.xe I3 (HM Ks) Ig stop) fun r s4 ⟨hr,I4⟩=>?_)
  subst hr
  exact wpAny_execs_nil ⟨σ3,H3,I4,qn⟩
 ·refine wpAny_passesOwn hp (bS (T.item X rfl rfl rfl hc i pins s3 σ3 H3 X.xe I3 (HM Ks) Ig go) fun r s4 ⟨u,hr,h4⟩=>?_)
  subst hr
  refine wpAny_passesOwn hp (bS h4 fun _ s5 ⟨x,H5,I5,r5,y5,Mt,N8⟩=>?_)
  have I5':=I5.pinned (HM N8) (T.obj _ _ Mt)
  refine wpAny_passesOwn hp (bS (hg _ s5 σ3 H5 x u _ I5' r5 (step x H5 y5)) fun _ s6 ⟨σ6,H6,I6,q6⟩=>?_)
  refine wpAny_passesOwn hp (bS (hb _ s6 σ6 H6 _ I6 q6) fun f s7 q7=>?_)
  have again:∀{σ7:St}{H7:Hp},Inv X (pins++oA fp s5.heap) σ7 H7 s7→N σ7 H7→∃m,m<n∧∃i σ' H',Inv X pins σ' H' s7∧tn i s7.heap∧(∀b∈fp,H' b=none)∧W i m σ' H':=fun {σ7 H7} I7 n7=>by
   obtain⟨m',hm,w7⟩:=hN σ7 H7 n7
   refine⟨m',hm,i+1,σ7,H7,I7.unpinned,T.keep _ _ _ Mt fun b hb o e=>(I7.pin (b,o) (List.mem_append_right _ (List.mem_append_right _ (gh hb e)))).1,fun b hb=>?_,w7⟩
   obtain⟨o,e,d⟩:=T.obj _ _ Mt b hb
   exact(I7.pin (b,o) (List.mem_append_right _ (List.mem_append_right _ (gh hb e)))).2.1
  cases f with
  |next=>obtain⟨σ7,H7,I7,n7⟩:=q7;exact again I7 n7
  |cont=>obtain⟨σ7,H7,I7,n7⟩:=q7;exact again I7 n7
  |brk=>obtain⟨σ7,H7,I7,q7⟩:=q7;exact⟨σ7,H7,I7.unpinned,q7⟩
  |ret v=>obtain⟨x7,σ7,H7,I7,r7,q7⟩:=q7;exact⟨x7,σ7,H7,I7.unpinned,r7,q7⟩
end
abbrev R2:=V→V→Hp→VK→Prop
def OpR(X:Cx)(f:Value→Value→Sem Value)(r:R2):Prop:=
 ∀(pins:List (Addr×Obj)) (s:Shared) (σ:St) (H:Hp) (x y:V) (v u:Value) (Q:VK),Inv X pins σ H s→RelV x v→RelV y u→r x y H Q→
  wpAny (model X.prog X.w) X.A (f v u) (EP X pins σ Q) X.xe s
def Lb(X:Cx)(f:Value→Sem Value)(r:V→Hp→VK→Prop):Prop:=
 ∀(pins:List (Addr×Obj)) (s:Shared) (σ:St) (H:Hp) (x:V) (v:Value) (Q:VK),Inv X pins σ H s→RelV x v→r x H Q→
  wpAny (model X.prog X.w) X.A (f v) (EP X pins σ Q) X.xe s
def CallR(X:Cx)(f:Value)(r:List V→Hp→VK→Prop):Prop:=
 ∀(pins:List (Addr×Obj)) (s:Shared) (σ:St) (H:Hp) (xs:List V) (us:List Value) (Q:VK),Inv X pins σ H s→Vals xs us→r xs H Q→
  wpAny (model X.prog X.w) X.A (call f us) (EP X pins σ Q) X.xe s
def La(X:Cx)(r:V→Hp→(Bool→Hp→Prop)→Prop):Prop:=
 ∀(pins:List (Addr×Obj)) (s:Shared) (σ:St) (H:Hp) (x:V) (v:Value) (Q:Bool→Hp→Prop),Inv X pins σ H s→RelV x v→r x H Q→
  wpAny (model X.prog X.w) X.A (truthy v) (TP X pins σ Q) X.xe s
def Kh(r:R2)(ta tb:TE):TE:=fun σ H Q=>ta σ H fun x H1=>tb σ H1 fun y H2=>r x y H2 Q
def PF(r:V→Hp→VK→Prop)(ta:TE):TE:=fun σ H Q=>ta σ H fun x H1=>r x H1 Q
def rI(C:Int→Int→Prop)(g:Int→Int→V):R2:=fun x y H Q=>∃i j,x= .int i∧y= .int j∧C i j∧Q (g i j) H
def wV(g:Int→Int→V):R2:=fun x y H Q=>∃i j,x= .int i∧y= .int j∧Q (g i j) H
def rU(g:Int→V):V→Hp→VK→Prop:=fun x H Q=>∃i,x= .int i∧Q (g i) H
section
variable{X:Cx}{a b c:Expr}{ta tb tc:TE}{pos:Pos}
theorem FR(ha:PE X a ta)(hb:PE X b tb){pins:List (Addr×Obj)}{s:Shared}{σ:St}{H:Hp}{R:V→V→Hp→Prop}(I:Inv X pins σ H s)
 (h:ta σ H fun x H1=>tb σ H1 fun y H2=>R x y H2){Q:Value→Shared→Prop}{f:Value→Value→Sem Value}
 (hf:∀v u s2 x y H2,Inv X pins σ H2 s2→RelV x v→RelV y u→R x y H2→wpAny (model X.prog X.w) X.A (f v u) Q X.xe s2):
 wpAny (model X.prog X.w) X.A (eval a X.env) (fun v s₁=>wpAny (model X.prog X.w) X.A (eval b X.env) (fun u s₂=>wpAny (model X.prog X.w) X.A (f v u) Q X.xe s₂) X.xe s₁) X.xe s:=by
 refine bS (ha pins s σ H _ I h) fun v s1 ⟨x,H1,I1,r1,q1⟩=>?_
 refine bS (hb pins s1 σ H1 _ I1 q1) fun u s2 ⟨y,H2,I2,r2,q2⟩=>?_
 exact hf v u s2 x y H2 I2 r1 r2 q2
theorem JP{op:Operator}{r:R2}(ho:OpR X (binaryOp op) r)(ha:PE X a ta)(hb:PE X b tb):PE X (.BinOp a op b pos) (Kh r ta tb):=by
 intro pins s σ H Q I h
 exact wpAny_BinOp (FR ha hb I h fun v u s2 x y H2 I2 rx ry q=>ho pins s2 σ H2 x y v u Q I2 rx ry q)
theorem JQ{op:UnaryOp}{r:V→Hp→VK→Prop}(ho:Lb X (unaryOp op) r)(ha:PE X a ta):PE X (.UnaryOp op a pos) (PF r ta):=by
 intro pins s σ H Q I h
 exact UnaryOp_ (bS (ha pins s σ H _ I h) fun v s1 ⟨x,H1,I1,r1,q1⟩=>ho pins s1 σ H1 x v Q I1 r1 q1)
theorem Mj{f:Value→Value→Sem Value}{C:Int→Int→Prop}{g:Int→Int→Int}
 (rule:∀(i j:Int) (t u:Tok) (s:Shared) (Q:Value→Shared→Prop) (E:Value→Shared→Prop),C i j→Q (.int (g i j) s.toks) {s with toks:=s.toks+1}→wpAny (model X.prog X.w) X.A (f (.int i t) (.int j u)) Q E s):
 OpR X f (rI C fun i j=> .int (g i j)):=by
 intro pins s σ H x y v u Q I rx ry h
 obtain⟨i,j,rfl,rfl,hc,q⟩:=h
 obtain⟨t,rfl⟩:=rx
 obtain⟨t',rfl⟩:=ry
 exact rule i j t t' s _ _ hc ⟨.int (g i j),H,I.tok _,⟨_,rfl⟩,q⟩
theorem JH{f:Value→Value→Sem Value}{g:Int→Int→Int}
 (rule:∀(i j:Int) (t u:Tok) (s:Shared) (Q:Value→Shared→Prop) (E:Value→Shared→Prop),Q (.int (g i j) s.toks) {s with toks:=s.toks+1}→wpAny (model X.prog X.w) X.A (f (.int i t) (.int j u)) Q E s):
 OpR X f (wV fun i j=> .int (g i j)):=by
 intro pins s σ H x y v u Q I rx ry h
 obtain⟨i,j,rfl,rfl,q⟩:=h
 obtain⟨t,rfl⟩:=rx
 obtain⟨t',rfl⟩:=ry
 exact rule i j t t' s _ _ ⟨.int (g i j),H,I.tok _,⟨_,rfl⟩,q⟩
theorem Ea{f:Value→Value→Sem Value}{g:Int→Int→Bool}
 (rule:∀(i j:Int) (t u:Tok) (s:Shared) (Q:Value→Shared→Prop) (E:Value→Shared→Prop),Q (.bool (g i j)) s→wpAny (model X.prog X.w) X.A (f (.int i t) (.int j u)) Q E s):
 OpR X f (wV fun i j=> .bl (g i j)):=by
 intro pins s σ H x y v u Q I rx ry h
 obtain⟨i,j,rfl,rfl,q⟩:=h
 obtain⟨t,rfl⟩:=rx
 obtain⟨t',rfl⟩:=ry
 exact rule i j t t' s _ _ ⟨.bl (g i j),H,I,rfl,q⟩
def Ii(i j:Int):Prop:=0<j∧j<1073741824
def CMul(i j:Int):Prop:=(-(2 ^ 64)<i∧i<2 ^ 64)∨(-(2 ^ 64)<j∧j<2 ^ 64)
theorem CMul.ok{i j:Int}(h:CMul i j):IntMulOk i j:=by
 rcases h with⟨h1,h2⟩ | ⟨h1,h2⟩
 ·exact .of_left (intBits_le_64 h1 h2)
 ·exact .of_right (intBits_le_64 h1 h2)
theorem G3:OpR X (binaryOp .Add) (wV fun i j=> .int (i+j)):=JH fun _ _ _ _ _ _ _ q=>add_int q
theorem G7:OpR X (binaryOp .Sub) (wV fun i j=> .int (i - j)):=JH fun _ _ _ _ _ _ _ q=>sub_int q
theorem G5:OpR X (binaryOp .Mult) (rI CMul fun i j=> .int (i*j)):=Mj fun _ _ _ _ _ _ _ hc q=>mul_int q hc.ok
theorem Ec:OpR X (binaryOp .FloorDiv) (rI Ii fun i j=> .int (i / j)):=Mj fun i j _ _ _ _ _ hc q=>by
 have h1:(0:Int)<j:=hc.1
 have h2:j<1073741824:=hc.2
 exact floordiv_int (by omega) (by rw[Int.fdiv_eq_ediv_of_nonneg i (by omega)];exact q) (.inl (PyProof.noPylong_small (by omega)))
theorem G4:OpR X (binaryOp .Mod) (rI (fun _ j=>0<j) fun i j=> .int (i % j)):=Mj fun i j _ _ _ _ _ hc q=>by
 have h1:(0:Int)<j:=hc
 exact mod_int' (by omega) (by rw[Int.fmod_eq_emod_of_nonneg i (by omega)];exact q)
theorem PJ{f:Value→Sem Value}{g:Int→Int}
 (rule:∀(i:Int) (t:Tok) (s:Shared) (Q:Value→Shared→Prop) (E:Value→Shared→Prop),Q (.int (g i) s.toks) {s with toks:=s.toks+1}→wpAny (model X.prog X.w) X.A (f (.int i t)) Q E s):
 Lb X f (rU fun i=> .int (g i)):=by
 intro pins s σ H x v Q I rx h
 obtain⟨i,rfl,q⟩:=h
 obtain⟨t,rfl⟩:=rx
 exact rule i t s _ _ ⟨.int (g i),H,I.tok _,⟨_,rfl⟩,q⟩
theorem HU:Lb X (unaryOp .USub) (rU fun i=> .int (-i)):=PJ fun _ _ _ _ _ q=>neg_int q
end
section
variable{X:Cx}{a b c:Expr}{ta tb tc:TE}{pos:Pos}
theorem F8{pins:List (Addr×Obj)}{σ:St}{H:Hp}{s:Shared}{Q:VK}{k k':Bool}(I:Inv X pins σ H s)(q:Q (.bl k) H)(e:k=k'):EP X pins σ Q (.bool k') s:=by
 subst e
 exact⟨.bl k,H,I,rfl,q⟩
theorem BK:OpR X (compareOp .Lt) (wV fun i j=> .bl (decide (i<j))):=Ea fun _ _ _ _ _ _ _ q=>lt_int q
theorem qD:OpR X (compareOp .LtE) (wV fun i j=> .bl (decide (i≤j))):=Ea fun _ _ _ _ _ _ _ q=>le_int q
theorem JJ:OpR X (compareOp .Gt) (wV fun i j=> .bl (decide (j<i))):=Ea fun _ _ _ _ _ _ _ q=>gt_int q
theorem JI:OpR X (compareOp .GtE) (wV fun i j=> .bl (decide (j≤i))):=Ea fun _ _ _ _ _ _ _ q=>ge_int q
theorem zB:OpR X (compareOp .In) (fun x y H Q=>∃i j,x= .str i∧y= .str j∧Q (.bl (!(Builtin.Str.occurrences j i 0 j.length 1).isEmpty)) H):=by
 intro pins s σ H x y v u Q I rx ry h
 obtain⟨i,j,rfl,rfl,q⟩:=h
 obtain⟨t,rfl⟩:=rx
 obtain⟨t',rfl⟩:=ry
 exact in_str (F8 I q rfl)
theorem OpR.or{f:Value→Value→Sem Value}{r r':R2}(h:OpR X f r)(h':OpR X f r'):OpR X f (fun x y H Q=>r x y H Q∨r' x y H Q):=by
 intro pins s σ H x y v u Q I rx ry q
 rcases q with q | q
 ·exact h pins s σ H x y v u Q I rx ry q
 ·exact h' pins s σ H x y v u Q I rx ry q
theorem BB(b:Expr){op:CmpOp}(h:op≠ .In:=by decide)(h2:op≠ .NotIn:=by decide):behindInMarks op b=false:=by
 have e1:(op==CmpOp.In)=false:=by cases op<;>first | rfl | exact absurd rfl h
 have e2:(op==CmpOp.NotIn)=false:=by cases op<;>first | rfl | exact absurd rfl h2
 cases b<;>simp[behindInMarks,e1,e2]
theorem Et{op:CmpOp}{r:R2}(ho:OpR X (compareOp op) r)(ha:PE X a ta)(hb:PE X b tb)(hm:behindInMarks op b=false):PE X (.Compare a [op] [b] pos) (Kh r ta tb):=by
 intro pins s σ H Q I h
 exact wpAny_Compare1 (FR ha hb I h fun v u s2 x y H2 I2 rx ry q=>ho pins s2 σ H2 x y v u Q I2 rx ry q) hm
def FK(t:TE):TT:=fun σ H Q=>t σ H fun x H'=>∃k,x= .bl k∧Q k H'
theorem EH{op:CmpOp}{r:R2}(ho:OpR X (compareOp op) r)(ha:PE X a ta)(hb:PE X b tb)(hm:behindInMarks op b=false):PT X (.Compare a [op] [b] pos) (FK (Kh r ta tb)):=by
 intro pins s σ H Q I h
 refine wpAny_isTrue_Compare1 (bS (ha pins s σ H _ I h) fun v s1 ⟨x,H1,I1,r1,q1⟩=>bS (hb pins s1 σ H1 _ I1 q1) fun u s2 ⟨y,H2,I2,r2,q2⟩=>
  bS (ho pins s2 σ H2 x y v u _ I2 r1 r2 q2) fun c s3 ⟨z,H3,I3,r3,k,e,q3⟩=>?_) hm
 subst e
 cases r3
 exact wpAny_truthy_bool ⟨H3,I3,q3⟩
def xg(r r':R2)(ta tb tc:TE):TE:=fun σ H Q=>ta σ H fun x H1=>tb σ H1 fun y H2=>r x y H2 fun z H3=>∃k,z= .bl k∧
 (if k=true then tc σ H3 fun w' H4=>r' y w' H4 Q else Q (.bl false) H3)
theorem B3{op wI:CmpOp}{r r':R2}(ho:OpR X (compareOp op) r)(qd:OpR X (compareOp wI) r')(ha:PE X a ta)(hb:PE X b tb)(hc:PE X c tc)
 (hm:lastMarks [op,wI] [b,c]=false:=by with_unfolding_all rfl):PE X (.Compare a [op,wI] [b,c] pos) (xg r r' ta tb tc):=by
 intro pins s σ H Q I h
 refine Compare_chain (bS (ha pins s σ H _ I h) fun v s1 ⟨x,H1,I1,r1,q1⟩=>chain_link (bS (hb pins s1 σ H1 _ I1 q1) fun u s2 ⟨y,H2,I2,r2,q2⟩=>
  bS (ho pins s2 σ H2 x y v u _ I2 r1 r2 q2) fun d s3 ⟨z,H3,I3,r3,k,e,q3⟩=>?_)) hm
 subst e
 cases r3
 refine wpAny_truthy_bool ?_
 cases k with
 |false=>exact ite_ff ⟨.bl false,H3,I3,rfl,q3⟩
 |true=>exact ite_tt (chain_last (bS (hc pins s3 σ H3 _ I3 q3) fun w' s4 ⟨z',H4,I4,r4,q4⟩=>qd pins s4 σ H4 y z' u w' Q I4 r2 r4 q4))
theorem Cf{op wI:CmpOp}{r r':R2}(ho:OpR X (compareOp op) r)(qd:OpR X (compareOp wI) r')(ha:PE X a ta)(hb:PE X b tb)(hc:PE X c tc)
 (hm:lastMarks [op,wI] [b,c]=false:=by with_unfolding_all rfl):PT X (.Compare a [op,wI] [b,c] pos) (FK (xg r r' ta tb tc)):=by
 intro pins s σ H Q I h
 refine isTrue_chain (bS (ha pins s σ H _ I h) fun v s1 ⟨x,H1,I1,r1,q1⟩=>test_link (bS (hb pins s1 σ H1 _ I1 q1) fun u s2 ⟨y,H2,I2,r2,q2⟩=>
  bS (ho pins s2 σ H2 x y v u _ I2 r1 r2 q2) fun d s3 ⟨z,H3,I3,r3,k,e,q3⟩=>?_)) hm
 subst e
 cases r3
 refine wpAny_truthy_bool ?_
 cases k with
 |false=>
  obtain⟨k',e',q'⟩:=q3
  cases e'
  exact ite_ff ⟨H3,I3,q'⟩
 |true=>
  refine ite_tt (test_last (bS (hc pins s3 σ H3 _ I3 q3) fun w' s4 ⟨z',H4,I4,r4,q4⟩=>bS (qd pins s4 σ H4 y z' u w' _ I4 r2 r4 q4) fun d' s5 ⟨z2,H5,I5,r5,k2,e2,q5⟩=>?_))
  subst e2
  cases r5
  exact wpAny_truthy_bool ⟨H5,I5,q5⟩
def Ip(K:W.Frag)(x:V)(H:Hp)(k:Bool):Prop:=
 match x with
 | .non=>k=false
 | .bl b=>k=b
 | .int i=>k=(i !=0)
 | .str y=>y.length≤sizeLine∧k=((y.length:Int) !=0)
 | .byt y=>y.size≤sizeLine∧k=((y.size:Int) !=0)
 | .ref p=>(∃xs,SqL K H p xs∧k=!xs.isEmpty)∨(∃xs,SqT K H p xs∧k=!xs.isEmpty)∨∃aw,H p=some (.dK aw)∧k=!aw.isEmpty
 |_=>False
theorem we{κ:Type}{aw:List (κ×V)}{vs:List (κ×Value)}(r:KV aw vs):(!vs.isEmpty)=!aw.isEmpty:=by
 cases r<;>rfl
theorem nu{xs:List V}{aG:List Value}(r:Vals xs aG):(!aG.toArray.isEmpty)=!xs.isEmpty:=by
 cases r<;>simp
theorem kG:(sizeLine:Nat)<2 ^ 63:=by rw[sizeLine_eq];decide
theorem HR:La X (fun x H Q=>∃k,Ip X.K x H k∧Q k H):=by
 intro pins s σ H x v Q I rx h
 obtain⟨k,e,q⟩:=h
 have hl:=kG
 have hs:sizeLine=16777216:=sizeLine_eq
 cases x with
 |non=>
  cases rx
  have e':k=false:=e
  subst e'
  exact truthy_none ⟨H,I,q⟩
 |bl b=>
  cases rx
  have e':k=b:=e
  subst e'
  exact wpAny_truthy_bool ⟨H,I,q⟩
 |int i=>
  obtain⟨t,rfl⟩:=rx
  have e':k=(i !=0):=e
  subst e'
  exact PySem.P.truthy_int ⟨H,I,q⟩
 |str y=>
  obtain⟨t,rfl⟩:=rx
  obtain⟨hy,e'⟩:y.length≤sizeLine∧k=((y.length:Int) !=0):=e
  subst e'
  exact PySem.P.truthy_str (by omega) ⟨H,I.tok _,q⟩
 |byt y=>
  obtain⟨t,rfl⟩:=rx
  obtain⟨hy,e'⟩:y.size≤sizeLine∧k=((y.size:Int) !=0):=e
  subst e'
  exact PySem.W.truthy_bytes (by omega) ⟨H,I.tok _,q⟩
 |ref p=>
  cases rx
  have e':(∃xs,SqL X.K H p xs∧k=!xs.isEmpty)∨(∃xs,SqT X.K H p xs∧k=!xs.isEmpty)∨∃aw,H p=some (.dK aw)∧k=!aw.isEmpty:=e
  rcases e' with⟨xs,hx,e'⟩ | ⟨xs,hx,e'⟩ | ⟨aw,hx,e'⟩
  ·subst e'
   obtain⟨aG,r,pl,hz⟩:=I.list hx
   have hlen:=r.length
   exact wpAny_truthy_list pl.isList (by simp only[List.size_toArray];omega) ⟨H,I.tok _,by rw[nu r];exact q⟩
  ·subst e'
   obtain⟨aG,r,pl,hz⟩:=I.tuple hx
   have hlen:=r.length
   exact truthy_tuple pl (by simp only[List.size_toArray];omega) ⟨H,I.tok _,by rw[nu r];exact q⟩
  ·subst e'
   obtain⟨hz,hS,vs,r,m⟩:aw.length≤sizeLine∧(p==sysModules)=false∧∃vs,KV aw vs∧s.heap.DictOf (bj X.prog X.w) p vs:=I.hok p _ hx
   have hlen:aw.length=vs.length:=Paired.length r
   exact wpAny_truthy_dict hS m (by omega) ⟨H,I.tok _,by rw[we r];exact q⟩
 |_=>exact(show False from e).elim
theorem Cg(ha:PE X a ta)(he:∀whole,isTrue a X.env whole=(do let v←whole;standAt a.pos;holding [v] (truthy v))):
 PT X a (fun σ H Q=>ta σ H fun x H'=>∃k,Ip X.K x H' k∧Q k H'):=by
 intro pins s σ H Q I h
 exact isTrue_plain (bS (ha pins s σ H _ I h) fun v s1 ⟨x,H1,I1,r1,q1⟩=>HR pins s1 σ H1 x v Q I1 r1 q1) (he _)
theorem vals1{x:V}{us:List Value}(r:Vals [x] us):∃u,us=[u]∧RelV x u:=by
 cases r with
 |cons r1 r2=>cases r2;exact⟨_,rfl,r1⟩
theorem vals2{x y:V}{us:List Value}(r:Vals [x,y] us):∃u w',us=[u,w']∧RelV x u∧RelV y w':=by
 cases r with
 |cons r1 r2=>
  cases r2 with
  |cons r3 r4=>cases r4;exact⟨_,_,rfl,r1,r3⟩
theorem Av:CallR X (.builtin "abs") (fun xs H Q=>∃i,xs=[.int i]∧Q (.int (if i<0 then -i else i)) H):=by
 intro pins s σ H xs us Q I r h
 obtain⟨i,rfl,q⟩:=h
 obtain⟨u,rfl,t,rfl⟩:=vals1 r
 exact call_abs_int fun u tk=>⟨.int (if i<0 then -i else i),H,I.tok _,⟨_,rfl⟩,q⟩
theorem yM(hc:X.calm=true):CallR X (.builtin "max") (fun xs H Q=>∃i j,xs=[.int i, .int j]∧Q (.int (if j>i then j else i)) H):=by
 intro pins s σ H xs us Q I r h
 obtain⟨i,j,rfl,q⟩:=h
 obtain⟨u,w',rfl,⟨t,rfl⟩,⟨t',rfl⟩⟩:=vals2 r
 refine max_two_ints (I.ok.hd hc) fun h' tk k=>⟨_,H,I.kept k,?_,q⟩
 by_cases hj:j>i
 ·rw[if_pos hj,if_pos hj];exact⟨_,rfl⟩
 ·rw[if_neg hj,if_neg hj];exact⟨_,rfl⟩
theorem yN(hc:X.calm=true):CallR X (.builtin "min") (fun xs H Q=>∃i j,xs=[.int i, .int j]∧Q (.int (if j<i then j else i)) H):=by
 intro pins s σ H xs us Q I r h
 obtain⟨i,j,rfl,q⟩:=h
 obtain⟨u,w',rfl,⟨t,rfl⟩,⟨t',rfl⟩⟩:=vals2 r
 refine min_two_ints (I.ok.hd hc) fun h' tk k=>⟨_,H,I.kept k,?_,q⟩
 by_cases hj:j<i
 ·rw[if_pos hj,if_pos hj];exact⟨_,rfl⟩
 ·rw[if_neg hj,if_neg hj];exact⟨_,rfl⟩
end
structure ObjM (h:Heap) (x dx C:Addr) (mA:Str→Option Value):Prop where
 obj:h.get? x=some (PySem.W.instObj C dx)
 ns:h.Ns1 dx mA
 ne:dx≠x
theorem zo{h:Heap}{dx:Addr}{mA:Str→Option Value}(n:h.Ns1 dx mA):∃od,h.get? dx=some od∧∀name,PySem.W.lookIn name od=some (mA name):=by
 obtain⟨o,es,ep,ho,hd,hk,_,hm⟩:=n
 refine⟨o,ho,fun name=>?_⟩
 have e:=hm name
 unfold nsFind findBy at e
 rw[←Array.find?_toList] at e
 unfold PySem.W.lookIn
 rw[hd]
 dsimp only
 split
 ·rename_i y q
  rw[q] at e
  exact congrArg some e
 ·rename_i q
  rw[q] at e
  have a:es.toList.any (·.refKey)=false:=by
   rw[List.any_eq_false]
   intro y hy
   obtain⟨z,t,y8⟩:=hk y (Array.mem_toList_iff.mp hy)
   simp[DictEntry.refKey,y8]
  have a':¬es.toList.any (·.refKey)=true:=by rw[a];exact Bool.false_ne_true
  rw[if_neg a']
  exact congrArg some e
theorem ObjM.look{h:Heap}{x dx C:Addr}{mA:Str→Option Value}(I:ObjM h x dx C mA):∃od,PySem.W.InstAt h x (PySem.W.instObj C dx) C (some od)∧∀name,PySem.W.lookIn name od=some (mA name):=
 let ⟨od,ho,hl⟩:=zo I.ns
 ⟨od,⟨I.obj,rfl,rfl,ho⟩,hl⟩
section
variable{prog:Program}{w:World}{A:Around}{E:Value→Shared→Prop}{s:Shared}{K:W.Frag}{x dx C f:Addr}{mA:Str→Option Value}{name:Str}{v:Value}
end
theorem RelO.some_of{v:V}{o:Option Value}(r:RelO (some v) o):∃u,o=some u∧RelV v u:=by
 cases o with
 |none=>exact(show False from r).elim
 |some u=>exact⟨u,rfl,r⟩
section
variable{P:Program}{w:World}{H H':Hp}{h h':Heap}{a C dx:Addr}{fs Lh:List (Str×V)}
theorem DR(hok:HOk P w H h)(e:H a=some (.ins C dx fs)):∃mA,ObjM h a dx C mA∧(∀f,RelO (fs.lookup f) (mA f))∧PySem.Within mA (fs.map (·.1))∧fs.length≤1000∧H dx=some (.own a):=by
 obtain⟨d,z,ne,ob,mA,n,r,q⟩:=(show ObjOk P w H h a (.ins C dx fs) from hok a _ e)
 exact⟨mA,⟨ob,n,ne⟩,r,q,z,d⟩
end
structure Cls (K:W.Frag) (C:Addr):Prop where
 pg:PySem.W.plainGet K C Str.empty=true
 hd:PySem.W.hasDictIn K C=true
 po:PySem.W.plainOver K C=true
 sa:PySem.W.findIn K (.ref C) "__setattr__"=some (some (.builtin "object.__setattr__"))
theorem Cls.get{K:W.Frag}{C:Addr}(c:Cls K C)(f:Str):PySem.W.plainGet K C f=true:=c.pg
structure Con (K:W.Frag) (C:Addr) (f:Str) (v:V) (u:Value):Prop where
 at_:PySem.W.findIn K (.ref C) f=some (some u)
 rel:RelV v u
 get:PySem.W.specialIn K u "__get__"=some none
 cp:PySem.W.copiedNames.contains f=false
structure Meth (K:W.Frag) (C:Addr) (m:Str) (f:Addr):Prop where
 at_:PySem.W.findIn K (.ref C) m=some (some (.ref f))
 fn:PySem.W.isFn K (.ref f)=true
 kp:PySem.W.keepIn K (.ref f)=true
section
variable{X:Cx}{pins:List (Addr×Obj)}{σ:St}{H:Hp}{s:Shared}{a C dx:Addr}{fs:List (Str×V)}{f:Str}{v:V}{A:Around}{E:Value→Shared→Prop}
end
section
variable{X:Cx}{o e value:Expr}{f:Str}{pos pos' MH:Pos}{ta tv:TE}
end
section
variable{X:Cx}{pins:List (Addr×Obj)}{σ:St}{H:Hp}{s:Shared}{A:Around}{E:Value→Shared→Prop}{Q:Value→Shared→Prop}{c:Value}{b:Bool}
inductive TyOf (K:W.Frag) (H:Hp):V→Value→Prop where
 |non:TyOf K H .non (.type "NoneType")
 |bl (x:Bool):TyOf K H (.bl x) (.type "bool")
 |int (i:Int):TyOf K H (.int i) (.type "int")
 |str (x:Str):TyOf K H (.str x) (.type "str")
 |flt (x:UInt64):TyOf K H (.flt x) (.type "float")
 |lst {a:Addr}{xs:List V}(e:H a=some (.lst xs)):TyOf K H (.ref a) (.type "list")
 |frz {a:Addr}{o:Obj}{xs:List V}(e:H a=some (.frz o (.lst xs))):TyOf K H (.ref a) (.type "list")
 |tup {a:Addr}{xs:List V}(e:H a=some (.tup xs)):TyOf K H (.ref a) (.type "tuple")
 |dK {a:Addr}{aw:List (Key×V)}(e:H a=some (.dK aw)):TyOf K H (.ref a) (.type "dict")
 |dT {a:Addr}{aw:List (List Key×V)}(e:H a=some (.dT aw)):TyOf K H (.ref a) (.type "dict")
 |ins {a C dx:Addr}{fs:List (Str×V)}(e:H a=some (.ins C dx fs)) (cl:Cls K C) (ha:PySem.W.findIn K (.ref C) "__class__"=some (some (.builtin "object.__class__")))
   (hn:PySem.W.specialIn K (.builtin "object.__class__") "__get__"=some (some (.builtin "getset_descriptor.__get__"))) (Nw:PySem.W.takesIn K (.builtin "object.__class__")=some true)
   (hm:PySem.W.mroIn K C (.type "object")=some true):TyOf K H (.ref a) (.ref C)
theorem zd{x:V}{u t:Value}(I:Inv X pins σ H s)(rx:RelV x u)(ty:TyOf X.K H x t)(e:PySem.W.kitOne X.K t c=some b)(h:∀tk,Q (.bool b) {s with toks:=tk}):
 wpAny (model X.prog X.w) A (call (.builtin "isinstance") [u,c]) Q E s:=by
 cases ty with
 |non=>cases (show u=Value.none from rx);exact PySem.W.kia_one PySem.W.kitx_none I.kIn True.intro e (fun z=>nomatch z) h
 |bl y=>cases (show u=Value.bool y from rx);exact PySem.W.kia_one PySem.W.kitx_bool I.kIn True.intro e (fun z=>nomatch z) h
 |int i=>obtain⟨t,q⟩:=(show∃t,u=Value.int i t from rx);cases q;exact PySem.W.kia_one PySem.W.kitx_int I.kIn True.intro e (fun z=>nomatch z) h
 |str y=>obtain⟨t,q⟩:=(show∃t,u=Value.str y t from rx);cases q;exact PySem.W.kia_one PySem.W.kitx_str I.kIn True.intro e (fun z=>nomatch z) h
 |flt y=>obtain⟨t,q⟩:=(show∃t,u=Value.float y t from rx);cases q;exact PySem.W.kia_one PySem.W.kitx_float I.kIn True.intro e (fun z=>nomatch z) h
 | @lst a xs ea=>
   cases (show u=Value.ref a from rx)
   obtain⟨_,_,n,_,h1⟩:=(show ObjOk X.prog X.w H s.heap a (.lst xs) from I.hok a _ ea)
   exact PySem.W.kia_one PySem.W.kitx_list I.kIn ⟨_,h1,rfl⟩ e (fun z=>nomatch z) h
 | @frz a ob xs ea=>
   cases (show u=Value.ref a from rx)
   obtain⟨_,_,_,n,_,h1⟩:=(show ObjOk X.prog X.w H s.heap a (.frz ob (.lst xs)) from I.hok a _ ea)
   exact PySem.W.kia_one PySem.W.kitx_list I.kIn ⟨_,h1,rfl⟩ e (fun z=>nomatch z) h
 | @tup a xs ea=>
   cases (show u=Value.ref a from rx)
   obtain⟨_,_,_,p⟩:=(show ObjOk X.prog X.w H s.heap a (.tup xs) from I.hok a _ ea)
   obtain⟨o,h1,h2,_⟩:=p
   exact PySem.W.kia_one PySem.W.kitx_tuple I.kIn ⟨o,h1,h2⟩ e (fun z=>nomatch z) h
 | @dK a aw ea=>
   cases (show u=Value.ref a from rx)
   obtain⟨_,_,vs,_,p⟩:=(show ObjOk X.prog X.w H s.heap a (.dK aw) from I.hok a _ ea)
   obtain⟨o,es,ep,h1,h2,_⟩:=p
   exact PySem.W.kia_one PySem.W.kitx_dict I.kIn ⟨o,h1,h2.1⟩ e (fun z=>nomatch z) h
 | @dT a aw ea=>
   cases (show u=Value.ref a from rx)
   obtain⟨_,_,xs,_,o,es,ep,h1,h2,_⟩:=(show ObjOk X.prog X.w H s.heap a (.dT aw) from I.hok a _ ea)
   exact PySem.W.kia_one PySem.W.kitx_dict I.kIn ⟨o,h1,h2.1⟩ e (fun z=>nomatch z) h
 | @ins a C dx fs ea cl ha hn Nw hm=>
   cases (show u=Value.ref a from rx)
   obtain⟨mA,O,_⟩:=DR I.hok ea
   obtain⟨od,J,_⟩:=O.look
   exact PySem.W.kia_one (PySem.W.kitx_own (cl.get _) cl.hd ha hn Nw hm) I.kIn J e (fun z=>nomatch z) h
end
structure Room (k:Nat) (A:Around):Prop where
 hd:A.handled=none
 dp:A.depth+3*k+5<recursionLimit
 un:A.units+16*k+200<cLine
theorem Room.mono{j k:Nat}{A:Around}(r:Room k A)(h:j≤k):Room j A:=⟨r.hd,by have:=r.dp;omega,by have:=r.un;omega⟩
theorem Room.deeper{k:Nat}{A:Around}(r:Room (k+1) A)(env:Env):Room k (A.deeper env):=
 ⟨r.hd,by have:=r.dp;show A.depth+1+3*k+5<_;omega,by have:=r.un;show A.units+3+16*k+200<_;omega⟩
theorem Room.depth{k:Nat}{A:Around}(r:Room k A):A.depth<recursionLimit:=by have:=r.dp;omega
theorem Room.units{k:Nat}{A:Around}(r:Room k A):A.units+64<cLine:=by have:=r.un;omega
def HP:TA:=fun _ H Q=>Q [] H
def CP(ta:TE)(tr:TA):TA:=fun σ H Q=>ta σ H fun x H1=>tr σ H1 fun xs H2=>Q (x::xs) H2
section
variable{X:Cx}{e:Expr}{es:List Expr}{te:TE}{t:TA}{pos:Pos}
theorem sy:PA X [] HP:=fun _ _ _ _ H Q I h=>Calls.spliced_nil ⟨[],H,I, .nil,h⟩
theorem sx(ha:PE X e te)(hr:PA X es t)(hs:starEach (e::es) X.env=(false,eval e X.env)::starEach es X.env:=by rfl):PA X (e::es) (CP te t):=by
 intro pos pins s σ H Q I h
 rw[hs]
 show wpAny _ _ (spliced ((false,eval e X.env)::backTo pos (starEach es X.env))) _ _ s
 refine Calls.spliced_cons (bS (ha pins s σ H _ I h) fun u s1 ⟨x,H1,I1,r1,q1⟩=>?_)
 exact bS (hr pos pins s1 σ H1 _ I1 q1) fun us s2 ⟨xs,H2,I2,r2,q2⟩=>⟨x::xs,H2,I2, .cons r1 r2,q2⟩
def MG(t:TA):TE:=fun σ H Q=>t σ H fun xs H1=>xs.length≤sizeLine∧∀p,H1 p=none→Q (.ref p) (upd H1 p (.tup xs))
def MC(t:TA):TE:=fun σ H Q=>t σ H fun xs H1=>xs.length≤sizeLine∧∀p,H1 p=none→Q (.ref p) (upd H1 p (.lst xs))
theorem Hn{x1}(h:PA X es t):PE X (.Tuple es x1 pos) (MG t):=by
 intro pins s σ H Q I hq
 refine wpAny_Tuple_spliced (bS (h pos pins s σ H _ I hq) fun us s1 ⟨xs,H1,I1,r,z,q⟩=>⟨by rw[←r.length];exact z,?_⟩)
 have hf:H1 s1.heap.objs.size=none:=I1.hok.fresh (Nat.le_refl _)
 refine⟨.ref s1.heap.objs.size,upd H1 s1.heap.objs.size (.tup xs),I1.laid (t':=s1.toks) (fun b u e=>Heap.get?_push_of_some _ e) (Nat.le_refl _) ?_,rfl,q _ hf⟩
 exact⟨z,us,r,⟨_,Heap.get?_push_size _ rfl,rfl,_,rfl⟩⟩
theorem B5(h:PA X es t):PE X (.List es pos) (MC t):=by
 intro pins s σ H Q I hq
 refine wpAny_List_spliced (bS (h pos pins s σ H _ I hq) fun us s1 ⟨xs,H1,I1,r,z,q⟩=>⟨by rw[←r.length];exact z,?_⟩)
 have hf:H1 s1.heap.objs.size=none:=I1.hok.fresh (Nat.le_refl _)
 refine⟨.ref s1.heap.objs.size,upd H1 s1.heap.objs.size (.lst xs),I1.laid (t':=s1.toks) (fun b u e=>Heap.get?_push_of_some _ e) (Nat.le_refl _) ?_,rfl,q _ hf⟩
 exact⟨z,us,0,r,Heap.get?_push_size _ rfl⟩
end
abbrev Sp:=List V→Hp→VK→XK→Prop
abbrev vN:=List Env→Hp→Shared→XK→Value→Shared→Prop
structure Env0 (P:Program) (w:World) (K:W.Frag) (mg:Str→Option Value) (base:Heap) (A:Around) (outer:List Env) (s:Shared) (H:Hp):Prop where
 frames:A.frames=some outer
 mod:Mod K mg base
 bs:∀b o,base.get? b=some o→s.heap.get? b=some o∧H b=none
 bsz:base.objs.size≤s.heap.objs.size
 funs:s.heap.FunFrames base outer
 frf:∀b∈mG outer,H b=none
 hok:HOk P w H s.heap
 bare:AllBare s.gens
def CE(outer:List Env)(P:Program)(w:World)(H:Hp)(s:Shared)(Q:VK)(u:Value)(s':Shared):Prop:=
 ∃v H',s'.os=s.os∧AllBare s'.gens∧Un (mG outer) [] H H' s.heap s'.heap∧HOk P w H' s'.heap∧RelV v u∧Q v H'
def CR(CX:vN)(outer:List Env)(P:Program)(w:World)(H:Hp)(s:Shared)(Q:VK)(E:XK)(r:Result)(s':Shared):Prop:=
 match r with
 | .ok (.ret u)=>CE outer P w H s Q u s'
 | .ok _=>False
 | .error e=>CX outer H s E e s'
structure FnOk (P:Program) (w:World) (K:W.Frag) (mg:Str→Option Value) (base:Heap) (CX:vN) (k:Nat) (f:Addr) (fd:FuncData) (ps:List Str) (sp:Sp):Prop where
 len:∀vs H Q E,sp vs H Q E→vs.length=ps.length
 run:∀(A:Around) (outer:List Env) (s:Shared) (H:Hp) (args:Args) (us:List Value) (vs:List V) (Q:VK) (E:XK),Room k A→Env0 P w K mg base A outer s H→BindsTo s fd args (ps.zip us)→Vals vs us→sp vs H Q E→
  codeAny (model P w) A (.call (.ref f) args) (CR CX outer P w H s Q E) s
theorem FnOk.mono{P:Program}{w:World}{K:W.Frag}{mg:Str→Option Value}{base:Heap}{CX:vN}{j k:Nat}{f:Addr}{fd:FuncData}{ps:List Str}{sp:Sp}(F:FnOk P w K mg base CX j f fd ps sp)(h:j≤k):
 FnOk P w K mg base CX k f fd ps sp:=⟨F.len,fun A outer s H args us vs Q E hr=>F.run A outer s H args us vs Q E (hr.mono h)⟩
section
variable{X:Cx}{pins:List (Addr×Obj)}{σ:St}{H:Hp}{s s':Shared}
theorem Inv.env0(I:Inv X pins σ H s):Env0 X.prog X.w X.K X.mg X.base X.A X.stack s H:=
 ⟨I.ok.frames,I.ok.mod,I.bs,Nat.le_trans I.ok.bsz I.sz,I.stack,I.stkFree,I.hok,I.bare⟩
theorem Inv.after{Q:VK}{u:Value}(I:Inv X pins σ H s)(h:CE X.stack X.prog X.w H s Q u s'):EP X pins σ Q u s':=by
 obtain⟨v,H',os,bare,un,hok,r,q⟩:=h
 obtain⟨hh,g,d,t,Mm⟩:=s'
 obtain rfl:Mm=s.os:=os
 exact⟨v,H',I.call (h':=hh) (g':=g) (d':=d) (t':=t) (ch:=[]) un hok bare (fun b z=>absurd z (by simp)),r,q⟩
end
def Kd(sp:Sp)(Fg:List V)(E:XK)(t:TA):TE:=fun σ H Q=>t σ H fun vs H1=>sp (vs++Fg) H1 Q E
def Binds(K:W.Frag)(fd:FuncData)(ps:List Str)(ds:List Value):Prop:=
 ∀(s:Shared) (us:List Value),K.In s.heap→(us++ds).length=ps.length→BindsTo s fd ⟨us,[]⟩ (ps.zip (us++ds))
theorem Binds.all{K:W.Frag}{fd:FuncData}{ps:List Str}(h:∀us:List Value,us.length=ps.length→bindArgs fd ⟨us,[]⟩=pure (ps.zip us)):Binds K fd ps []:=fun s us _ hl=>by
 rw[List.append_nil] at hl⊢
 exact .of_eq (h us hl)
def Passes(CX:vN)(X:Cx)(E:XK):Prop:=∀(pins:List (Addr×Obj)) (σ:St) (H:Hp) (s:Shared) (e:Value) (s':Shared),Inv X pins σ H s→CX X.stack H s E e s'→X.xe e s'
section
variable{X:Cx}{CX:vN}{k:Nat}{f C:Addr}{fd:FuncData}{ps:List Str}{sp:Sp}{Fg:List V}{ds:List Value}{E:XK}{x m:Str}{p pos apos:Pos}{e o:Expr}{es:List Expr}{ta:TE}{t:TA}
theorem HB{pins:List (Addr×Obj)}{σ:St}{H:Hp}{s:Shared}{Q:VK}{us:List Value}{vs:List V}(F:FnOk X.prog X.w X.K X.mg X.base CX k f fd ps sp)(hr:Room k X.A)(hb:Binds X.K fd ps ds)(hd:Vals Fg ds)(hx:Passes CX X E)
 (I:Inv X pins σ H s)(r:Vals vs us)(h:sp (vs++Fg) H Q E):wpAny (model X.prog X.w) X.A (call (.ref f) us) (EP X pins σ Q) X.xe s:=by
 have r2:Vals (vs++Fg) (us++ds):=r.append hd
 have hl:(us++ds).length=ps.length:=by rw[←r2.length];exact F.len _ _ _ _ h
 refine wpAny_call (codeAny_mono (F.run X.A X.stack s H ⟨us,[]⟩ (us++ds) (vs++Fg) Q E hr I.env0 (hb s us I.kIn hl) r2 h) fun r s' hq=>?_)
 cases r with
 |error e=>exact hx pins σ H s e s' I hq
 |ok fl=>
  cases fl with
  |ret u=>exact I.after hq
  |next=>exact False.elim hq
  |brk=>exact False.elim hq
  |cont=>exact False.elim hq
theorem Es(F:FnOk X.prog X.w X.K X.mg X.base CX k f fd ps sp)(hr:Room k X.A)(hg:Gl X x)(hm:X.mg x=some (.ref f))(hk:PySem.W.keepIn X.K (.ref f)=true)(hb:Binds X.K fd ps ds)(hd:Vals Fg ds)(hx:Passes CX X E)
 (ha:PA X (e::es) t)(rQ:(x==("__debug__":Str))=false:=by decide)(he:starEach (e::es) X.env=(false,eval e X.env)::starEach es X.env:=by rfl)(nk:(backTo pos (starEach es X.env)).any (·.1)=false:=by rfl):
 PE X (.Call (.Name x p) (e::es) [] pos) (Kd sp Fg E t):=by
 intro pins s σ H Q I h
 refine wpAny_Call_Name_kw (xZ I hg hm ?_ rQ)
 refine PySem.W.callWith_K (h₀:=X.base) I.ok.mod.kin hk (bS (ha pos pins s σ H _ I h) fun us s1 ⟨vs,H1,I1,r,q⟩=>⟨I1.kIn,?_⟩) he nk
 exact HB F hr hb hd hx I1 r q
structure Mk (K:W.Frag) (C f:Addr):Prop where
 makes:PySem.W.makesIn K C=true
 init:PySem.W.findIn K (.ref C) "__init__"=some (some (.ref f))
 fn:PySem.W.isFn K (.ref f)=true
 kp:PySem.W.keepIn K (.ref C)=true
end
section
variable{X:Cx}{CX:vN}{k:Nat}{f C:Addr}{fd:FuncData}{ps ks:List Str}{sp:Sp}{E:XK}{x m:Str}{p pos apos Pl:Pos}{e o:Expr}{es:List Expr}{Qc:List Keyword}{te ta:TE}{t tk:TA}{nm:Option Str}
structure KBinds (K:W.Frag) (fd:FuncData) (ps ks:List Str) (g:List Value→List Value→List Value) (gV:List V→List V→List V):Prop where
 to:∀(s:Shared) (us ws:List Value),K.In s.heap→(g us ws).length=ps.length→BindsTo s fd ⟨us,ks.zip ws⟩ (ps.zip (g us ws))
 rel:∀{vs:List V}{us:List Value}{zs:List V}{ws:List Value},Vals vs us→Vals zs ws→Vals (gV vs zs) (g us ws)
variable{g:List Value→List Value→List Value}{gV:List V→List V→List V}
end
structure FnScope (N P:List Str) (sc:Scope):Prop where
 kind:sc.kind= .function
 co:sc.isCoroutine=false
 gen:sc.isGenerator=false
 nd:N.Nodup
 pre:N.take P.length=P
 par:∀x∈P,sc.names.lookup x=some .local∨sc.names.lookup x=some .cell
 nofree:∀y∈sc.names,y.2≠ .free
theorem pV{kindOf:Str→Option NameKind}{x:Str}:∀{binds:List (Str×Value)}{m:Str→Option Value},(∀v,(x,v)∉binds)→bindL kindOf binds m x=m x
 |[],_,_=>rfl
 |(n,v)::r,m,h=>by
  unfold bindL
  rw[pV fun w hw=>h w (List.mem_cons_of_mem _ hw)]
  split
  ·have:x≠n:=by rintro rfl;exact h v List.mem_cons_self
   simp[this]
  ·rfl
theorem pT{kindOf:Str→Option NameKind}{x:Str}:∀{binds:List (Str×Value)}{m:Str→Option Value},(∀v,(x,v)∉binds)→bindC kindOf binds m x=m x
 |[],_,_=>rfl
 |(n,v)::r,m,h=>by
  unfold bindC
  rw[pT fun w hw=>h w (List.mem_cons_of_mem _ hw)]
  split
  ·rfl
  ·have:x≠n:=by rintro rfl;exact h v List.mem_cons_self
   simp[this]
theorem pU{kindOf:Str→Option NameKind}{x:Str}{v:Value}:∀{P:List Str}{vs:List Value}{i:Nat}{m:Str→Option Value},P.Nodup→P[i]? =some x→vs[i]? =some v→kindOf x=some .local→
 bindL kindOf (P.zip vs) m x=some v
 |[],_,_,_,_,h,_,_=>by simp at h
 |_::_,[],_,_,_,_,h,_=>by simp at h
 |p::P,w::vs,0,m,nd,h1,h2,hk=>by
  simp at h1 h2;subst h1;subst h2
  show bindL kindOf ((p,w)::P.zip vs) m p=_
  unfold bindL
  rw[pV fun v hv=>(List.nodup_cons.mp nd).1 (List.of_mem_zip hv).1,if_pos hk]
  simp
 |p::P,w::vs,i+1,m,nd,h1,h2,hk=>by
  show bindL kindOf ((p,w)::P.zip vs) m x=_
  unfold bindL
  exact pU (i:=i) (List.nodup_cons.mp nd).2 (by simpa using h1) (by simpa using h2) hk
theorem pS{kindOf:Str→Option NameKind}{x:Str}{v:Value}:∀{P:List Str}{vs:List Value}{i:Nat}{m:Str→Option Value},P.Nodup→P[i]? =some x→vs[i]? =some v→kindOf x≠some .local→
 bindC kindOf (P.zip vs) m x=some v
 |[],_,_,_,_,h,_,_=>by simp at h
 |_::_,[],_,_,_,_,h,_=>by simp at h
 |p::P,w::vs,0,m,nd,h1,h2,hk=>by
  simp at h1 h2;subst h1;subst h2
  show bindC kindOf ((p,w)::P.zip vs) m p=_
  unfold bindC
  rw[pT fun v hv=>(List.nodup_cons.mp nd).1 (List.of_mem_zip hv).1,if_neg hk]
  simp
 |p::P,w::vs,i+1,m,nd,h1,h2,hk=>by
  show bindC kindOf ((p,w)::P.zip vs) m x=_
  unfold bindC
  exact pS (i:=i) (List.nodup_cons.mp nd).2 (by simpa using h1) (by simpa using h2) hk
def start(N:List Str)(vs:List V):St:=vs.map some++List.replicate (N.length - vs.length) none
def d_(CX:vN)(P:Program)(w:World)(K:W.Frag)(mg:Str→Option Value)(base:Heap)(N:List Str)(qual:Str)(scope:Scope)(f:Addr)(cd:Value)(A:Around)(outer:List Env)(s:Shared)(H:Hp)(E:XK):Cx where
 prog:=P
 w:=w
 K:=K
 mg:=mg
 base:=base
 A:=A.deeper (envOfC qual scope s.heap.objs.size f cd)
 N:=N
 s₀:=s
 H₀:=H
 env:=envOfC qual scope s.heap.objs.size f cd
 outer:=outer
 stack:=envOfC qual scope s.heap.objs.size f cd::outer
 ex:=[]
 calm:=true
 fn:=fun _=>true
 pn:=[]
 xe:=fun e s'=>wpAny (model P w) (A.deeper (envOfC qual scope s.heap.objs.size f cd)) (leaving (envOfC qual scope s.heap.objs.size f cd) e) (fun _ J8=>CX outer H s E e J8) (fun e' J8=>CX outer H s E e' J8) s'
theorem tW{sc:Scope}{n:Nat}{x:Str}(h:sc.names.lookup x=some .cell):∃c,(cellsFrom n sc.names []).lookup x=some c:=by
 have q:=PySem.W.cellsFrom_some sc.names n [] (.inl h)
 exact Option.isSome_iff_exists.mp q
theorem zb{CX:vN}{P:Program}{w:World}{K:W.Frag}{mg:Str→Option Value}{base:Heap}{N ps:List Str}{qual:Str}{scope:Scope}{f:Addr}{cd:Value}{A:Around}{outer:List Env}{s s1:Shared}{H:Hp}{E:XK}{us:List Value}{vs:List V}
 (S:FnScope N ps scope)(hd:A.handled=none)(e0:Env0 P w K mg base A outer s H)(hl:vs.length=ps.length)(r:Vals vs us)
 (x:InCallC s s.heap.objs.size (bindL (envOfC qual scope s.heap.objs.size f cd).kindOf (ps.zip us) fun _=>none) (cellsFrom (s.heap.objs.size+1) scope.names []) (bindC (envOfC qual scope s.heap.objs.size f cd).kindOf (ps.zip us) fun _=>none) s1):
 Inv (d_ CX P w K mg base N qual scope f cd A outer s H E) [] (start N vs) H s1:=by
 have nk:ps.length≤N.length:=by have:=congrArg List.length S.pre;rw[List.length_take] at this;omega
 obtain⟨h1,tk,rfl,hk⟩:=x.done
 have JD:∀b:Addr,b∉(d_ CX P w K mg base N qual scope f cd A outer s H E).ex:=fun b z=>absurd (show b∈([]:List Addr) from z) (by simp)
 refine⟨⟨e0.mod,S.kind,rfl,rfl,Nat.le_refl _,fun y z c h1 h2=>?_,fun y hy=>?_,fun y c _ h=>?_,fun _=>hd,Around.frames_deeper e0.frames, .inr ⟨rfl,rfl⟩,fun b z=>absurd z (JD b),e0.bs,e0.bsz,fun b _ _=>JD b,fun b z=>absurd z (JD b),e0.funs,e0.frf⟩,
  rfl,e0.bare,Un.kept hk,⟨_,x.toInCall.ns,fun i y v h1 h2 h3=>?_⟩,fun y c h=>⟨_,x.cell y c h⟩,e0.hok.fresh (Nat.le_refl _),fun y c h=>?_,fun p hp=>absurd (show p∈([]:List (Addr×Obj)) from hp) (by simp),e0.hok.kept hk,?_⟩
 ·exact name_of_addr x.apart (PySem.mem_of_lookup h1) (PySem.mem_of_lookup h2)
 ·have hy:scope.names.lookup y=some .cell∨scope.names.lookup y=some .free:=hy
  rcases hy with hy | hy
  ·exact tW hy
  ·exact absurd rfl (S.nofree _ (PySem.mem_of_lookup hy))
 ·exact Nat.le_of_lt (x.above y c (PySem.mem_of_lookup h))
 ·have hi:i<vs.length:=by
   unfold start at h2
   by_cases hi:i<vs.length
   ·exact hi
   ·rw[List.getElem?_append_right (by simpa using hi)] at h2
    rw[List.getElem?_replicate] at h2
    split at h2<;>cases h2
  have ha:vs[i]? =some v:=by
   unfold start at h2
   rw[List.getElem?_append_left (by simpa using hi),List.getElem?_map] at h2
   cases e:vs[i]? with
   |none=>rw[e] at h2;cases h2
   |some a=>rw[e] at h2;cases h2;rfl
  obtain⟨u,hu,rv⟩:=r.get ha
  have hp:ps[i]? =some y:=by
   rw[←S.pre,List.getElem?_take_of_lt (by omega)];exact h1
  have NH:ps.Nodup:=by rw[←S.pre];exact S.nd.sublist (List.take_sublist _ _)
  refine⟨u,rv,?_⟩
  rcases S.par y (List.mem_of_getElem? hp) with k | k
  ·exact .inl ⟨k,pU NH hp hu k⟩
  ·obtain⟨c,e⟩:=tW (n:=s.heap.objs.size+1) k
   refine .inr ⟨.inl k,c,e,?_⟩
   have q:=x.cell y c e
   rw[pS NH hp hu (by show scope.names.lookup y≠_;rw[k];decide)] at q
   exact q
 ·exact e0.hok.fresh (Nat.le_of_lt (x.above y c (PySem.mem_of_lookup h)))
 ·unfold start
  show _=N.length
  rw[List.length_append,List.length_map,List.length_replicate]
  omega
theorem Fm{CX:vN}{P:Program}{w:World}{K:W.Frag}{mg:Str→Option Value}{base:Heap}{k:Nat}{f:Addr}{name qual:Str}{params:Arguments}{body:List Stmt}{scope:Scope}{dV kV doc pm bC ct oc:Value}{an od:Option Addr}
 {Ej:Array (Option Value)}{N ps:List Str}{sp:Sp}(lk:K.lookup f=some ⟨oc,od, .func (PySem.W.fnOf name qual params body scope dV kV doc pm an bC ct),Ej⟩)(vK:PySem.W.codeIn K bC qual=true)(S:FnScope N ps scope)
 (len:∀vs H Q E,sp vs H Q E→vs.length=ps.length)
 (ng:∀(A:Around) (outer:List Env) (s:Shared) (H:Hp) (vs:List V) (Q:VK) (E:XK),Room k (A.deeper (envOfC qual scope s.heap.objs.size f bC))→sp vs H Q E→
  ∃t,PSs (d_ CX P w K mg base N qual scope f bC A outer s H E) body t∧t {nx:=fun _ H'=>Q .non H',rt:=Q} (start N vs) H):
 FnOk P w K mg base CX (k+1) f (PySem.W.fnOf name qual params body scope dV kV doc pm an bC ct) ps sp:=by
 refine⟨len,fun A outer s H args us vs Q E hr e0 hb r Dd=>?_⟩
 have hl:=len _ _ _ _ Dd
 have KX:K.In s.heap:=e0.mod.kin.keeps fun b o e=>(e0.bs b o e).1
 have lim:s.heap.NoLimit:=e0.mod.nolimit.keeps fun b o e=>(e0.bs b o e).1
 have I9:∀y∈ps.zip us,scope.names.lookup y.1=some .local∨(scope.names.lookup y.1=some .cell∧((cellsFrom (s.heap.objs.size+1) scope.names []).lookup y.1).isSome=true):=fun⟨n,v⟩ hy=>by
  rcases S.par n (List.of_mem_zip hy).1 with q | q
  ·exact .inl q
  ·exact .inr ⟨q,PySem.W.cellsFrom_some _ _ _ (.inl q)⟩
 refine codeAny_call_function hr.depth (KX _ _ lk) rfl S.co S.gen rfl (PySem.W.codeRec_of KX vK) (hb _ _ _ _ ?_)
 refine wpAny_newFunctionEnv_cells S.kind I9 fun env he s1 x=>?_
 subst he
 refine⟨lim.keeps x.toInCall.keep,codeAny_func ?_⟩
 obtain⟨t,ht,hq⟩:=ng A outer s H vs Q E (hr.deeper _) Dd
 have I:Inv (d_ CX P w K mg base N qual scope f bC A outer s H E) [] (start N vs) H s1:=zb S hr.hd e0 hl r x
 refine wpAny_mono (ht [] s1 (start N vs) H _ I hq) (fun fl s' hs=>?_) fun e s' hs=>hs
 have fin:∀{σ':St}{H':Hp}{v:V}{u:Value},Inv (d_ CX P w K mg base N qual scope f bC A outer s H E) [] σ' H' s'→RelV v u→Q v H'→CE outer P w H s Q u s':=
  fun {σ' H' v u} J rv q=>⟨v,H',J.os,J.bare,J.base,J.hok,rv,q⟩
 cases fl with
 |ret u=>
  obtain⟨v,σ',H',J,rv,q⟩:=hs
  exact fin J rv q
 |next=>
  obtain⟨σ',H',J,q⟩:=hs
  exact fin (v:=V.non) (u:=Value.none) J rfl q
 |brk=>
  obtain⟨_,_,_,q⟩:=hs
  exact False.elim q
 |cont=>
  obtain⟨_,_,_,q⟩:=hs
  exact False.elim q
section
variable{X:Cx}{x:Str}{p pos:Pos}{e:Expr}{es:List Expr}{t:TA}{id T:String}{r:List V→Hp→VK→Prop}
def Mx(r:List V→Hp→VK→Prop)(t:TA):TE:=fun σ H Q=>t σ H fun vs H1=>r vs H1 Q
theorem B2(hc:CallR X (.builtin id) r)(hg:Gl X x)(hm:X.mg x=none)(hv:bootBuiltins x=some (.builtin id))(ha:PA X (e::es) t)(hn:x≠"__name__":=by decide)(rQ:(x==("__debug__":Str))=false:=by decide)
 (he:starEach (e::es) X.env=(false,eval e X.env)::starEach es X.env:=by rfl)(nk:(backTo pos (starEach es X.env)).any (·.1)=false:=by rfl):PE X (.Call (.Name x p) (e::es) [] pos) (Mx r t):=by
 intro pins s σ H Q I h
 refine wpAny_Call_Name_kw (gO I hg hm hv ?_ hn rQ)
 exact PyProof.Rows.callWith_builtin1 (bS (ha pos pins s σ H _ I h) fun us s1 ⟨vs,H1,I1,r1,q1⟩=>hc pins s1 σ H1 vs us Q I1 r1 q1) he nk
theorem zJ(hc:CallR X (.type T) r)(hg:Gl X x)(hm:X.mg x=none)(hv:bootBuiltins x=some (.type T))(ha:PA X (e::es) t)(hn:x≠"__name__":=by decide)(rQ:(x==("__debug__":Str))=false:=by decide)
 (he:starEach (e::es) X.env=(false,eval e X.env)::starEach es X.env:=by rfl)(nk:(backTo pos (starEach es X.env)).any (·.1)=false:=by rfl):PE X (.Call (.Name x p) (e::es) [] pos) (Mx r t):=by
 intro pins s σ H Q I h
 refine wpAny_Call_Name_kw (gO I hg hm hv ?_ hn rQ)
 exact PyProof.Rows.callWith_type1 (bS (ha pos pins s σ H _ I h) fun us s1 ⟨vs,H1,I1,r1,q1⟩=>hc pins s1 σ H1 vs us Q I1 r1 q1) he nk
end
end L2
namespace HT
open PySem PyProof.Rows
section
open PySem.SeqAt
open PySem.AutoSeq1 (wpAny_loadPart')
open PySem.MeetsSeq PySem.MeetsSeq2 PySem.MeetsSeq3
end
section
variable{prog:Program}{w:World}{A:Around}{E:Value→Shared→Prop}{s:Shared}
theorem cat_tup{t b:Addr}{vs ws:List Value}{Q:Value→Shared→Prop}(ht:IsTup s.heap t vs.toArray)(hb:IsTup s.heap b ws.toArray)(hv:vs≠[])
 (h1:ws=[]→Q (.ref t) s)(h2:ws≠[]→Q (.ref s.heap.objs.size) {s with heap:=s.heap.push {cls:= .type "tuple",data:= .seq (vs++ws).toArray} })
 (hsz:vs.length+ws.length≤sizeLine):wpAny (model prog w) A (binaryOp .Add (.ref t) (.ref b)) Q E s:=by
 obtain⟨⟨cls,dd,data,sl⟩,ho,hc,n,hd⟩:=id ht
 obtain⟨⟨Le,Dq,data2,KY⟩,Gy,Gj,n2,hd2⟩:=id hb
 simp only at hc hd Gj hd2
 subst hc hd Gj hd2
 have e:vs.toArray++ws.toArray=(vs++ws).toArray:=by simp
 by_cases hw:ws=[]
 ·exact concat_meets ⟨_,ho,rfl⟩ ⟨_,Gy,rfl⟩ noFill_tuple_add seq_tuple_add PySem.F.slot_tuple_add PySem.F.entry_tuple_add (PySem.F.args_tuple_add_2 _ _)
   (tuple_addW1 t b vs.toArray ws.toArray n n2 dd Dq sl KY (by simpa using hv) (by simp[hw])) ⟨ho,Gy,h1 hw⟩
 ·refine concat_meets ⟨_,ho,rfl⟩ ⟨_,Gy,rfl⟩ noFill_tuple_add seq_tuple_add PySem.F.slot_tuple_add PySem.F.entry_tuple_add (PySem.F.args_tuple_add_2 _ _)
   (tuple_addW2 t b vs.toArray ws.toArray n n2 dd Dq sl KY (by simpa using hv) (by simpa using hw) (by rw[List.size_toArray,List.size_toArray];exact hsz)) ⟨ho,Gy,?_⟩
  rw[e]
  exact h2 hw
def sIx(n d:Nat):Option Int→Nat
 |none=>d
 |some v=>if v<0 then(v+(n:Int)).toNat else min v.toNat n
theorem sIx_nat(n d k:Nat):sIx n d (some (k:Int))=min k n:=by
 show (if (k:Int)<0 then((k:Int)+(n:Int)).toNat else min (k:Int).toNat n)=min k n
 rw[if_neg (by omega),Int.toNat_natCast]
theorem sIx_le(n d:Nat)(hd:d≤n)(o:Option Int):sIx n d o≤n:=by
 cases o with
 |none=>exact hd
 |some v=>
  show (if v<0 then(v+(n:Int)).toNat else min v.toNat n)≤n
  by_cases hv:v<0
  ·rw[if_pos hv];omega
  ·rw[if_neg hv];exact Nat.min_le_right _ _
theorem clip_eq(v:Int)(n d:Nat):(if v<0 then max (v+(n:Int)) 0 else min v (n:Int))=((sIx n d (some v):Nat):Int):=by
 show (if v<0 then max (v+(n:Int)) 0 else min v (n:Int))=(((if v<0 then(v+(n:Int)).toNat else min v.toNat n):Nat):Int)
 by_cases hv:v<0
 ·simp only[if_pos hv];omega
 ·simp only[if_neg hv];omega
theorem adjust_gen(lo hi:Option Int)(n:Nat):Builtin.Slice.sliceAdjust lo hi 1 (n:Int)=(((sIx n 0 lo:Nat):Int),((sIx n n hi:Nat):Int)):=by
 have h1:¬((1:Int)<0):=by omega
 unfold Builtin.Slice.sliceAdjust
 simp only[h1,if_false]
 refine Prod.ext ?_ ?_
 ·cases lo with
  |none=>rfl
  |some v=>exact clip_eq v n 0
 ·cases hi with
  |none=>rfl
  |some v=>exact clip_eq v n n
theorem places_gen(i j:Nat):Builtin.Slice.slicePlaces (i:Int) (j:Int) 1=j - i:=by
 unfold Builtin.Slice.slicePlaces
 have h1:(1:Int)>0:=by omega
 simp only[h1,if_true,Int.ediv_one]
 split<;>omega
theorem slicePart_{v:Value}{o:Option Int}{Q:Option Int→Shared→Prop}(p:IsPart v o)(h:Q o s):wpAny (model prog w) A (Builtin.Slice.slicePartIndex v) Q E s:=by
 cases p with
 |none=>exact slicePart_none h
 |int i t=>exact slicePart_int h
theorem sliceApplied_gen{sl:Addr}{vl vu:Value}{lo hi:Option Int}{n:Nat}{Q:Int×Int×Nat→Shared→Prop}(hs:s.heap.IsSliceOf sl vl vu .none)(pl:IsPart vl lo)(pu:IsPart vu hi)
 (h:Q (((sIx n 0 lo:Nat):Int),1,sIx n n hi - sIx n 0 lo) s):wpAny (model prog w) A (Builtin.Slice.sliceApplied (.ref sl) (pure (n:Int))) Q E s:=by
 obtain⟨os,uh,DH,y0⟩:=id hs
 unfold Builtin.Slice.sliceApplied Builtin.Slice.sliceFields
 refine wpAny_bind (wpAny_bind (wpAny_field uh y0 (x:=vl) rfl (wpAny_bind (wpAny_field uh y0 (x:=vu) rfl (wpAny_bind (wpAny_field uh y0 (x:= .none) rfl (wpAny_pure ?_)))))))
 refine wpAny_bind (slicePart_none ?_)
 show wpAny _ _ (if ((1:Int)==0)=true then _ else _) _ _ s
 rw[if_neg (by decide)]
 refine wpAny_bind (slicePart_ pl (wpAny_bind (slicePart_ pu (wpAny_bind (wpAny_pure ?_)))))
 show wpAny _ _ (match Builtin.Slice.sliceAdjust lo hi 1 (n:Int) with | (lo,hi)=>pure (lo,(1:Int),Builtin.Slice.slicePlaces lo hi 1)) _ _ s
 rw[adjust_gen lo hi n]
 show wpAny _ _ (pure (((sIx n 0 lo:Nat):Int),(1:Int),Builtin.Slice.slicePlaces ((sIx n 0 lo:Nat):Int) ((sIx n n hi:Nat):Int) 1)) _ _ s
 rw[places_gen]
 exact wpAny_pure h
theorem pick_gen(xs:Array Value)(i k:Nat):((List.range k).filterMap fun(m:Nat)=>xs[((i:Int)+(m:Int)*1).toNat]?).toArray=((xs.toList.drop i).take k).toArray:=by
 have e:(fun (m:Nat)=>xs[((i:Int)+(m:Int)*1).toNat]?)=fun m=>xs[i+m]? :=by
  funext m
  have:((i:Int)+(m:Int)*1).toNat=i+m:=by omega
  rw[this]
 rw[e]
 have:=pick_run xs i k
 rw[List.filterMap_map] at this
 have e2:((fun x=>xs[x]?)∘fun x=>i+x)=fun m=>xs[i+m]? :=rfl
 rw[e2] at this
 rw[this]
theorem getItem_tuple_cut{t sl:Addr}{items:Array Value}{vl vu:Value}{lo hi:Option Int}{Q:Value→Shared→Prop}(ht:IsTup s.heap t items)(hs:s.heap.IsSliceOf sl vl vu .none)(pl:IsPart vl lo)(pu:IsPart vu hi)
 (hw:¬(sIx items.size 0 lo=0∧sIx items.size items.size hi=items.size))
 (h:Q (.ref s.heap.objs.size) {s with heap:=s.heap.push {cls:= .type "tuple",data:= .seq ((items.toList.drop (sIx items.size 0 lo)).take (sIx items.size items.size hi - sIx items.size 0 lo)).toArray} })
 (hsz:items.size≤sizeLine):wpAny (model prog w) A (getItem (.ref t) (.ref sl)) Q E s:=by
 have xS:sizeOk (.seq ((items.toList.drop (sIx items.size 0 lo)).take (sIx items.size items.size hi - sIx items.size 0 lo)).toArray):=by
  show ((items.toList.drop (sIx items.size 0 lo)).take (sIx items.size items.size hi - sIx items.size 0 lo)).toArray.size≤sizeLine
  rw[List.size_toArray,List.length_take,List.length_drop,Array.length_toList]
  omega
 have hj:sIx items.size items.size hi≤items.size:=sIx_le _ _ (Nat.le_refl _) hi
 obtain⟨os,uh,DH,y0⟩:=id hs
 have IM:s.TypeIs (.ref sl) "slice":=⟨os,uh,DH⟩
 unfold getItem
 try with_reducible refine wpAny_holding ?_
 first | refine wpAny_bind (wpAny_pure ?_) | skip
 refine wpAny_bind (wpAny_sequenceKey ht.typeIs (by decide) ?_)
 refine wpAny_bind (wpAny_callSpecial?_slot (name:=Str.ofString "__getitem__") ht.typeIs PyProof.Rows.slot_tuple_getitem
  (wpAny_call_entry PyProof.Rows.slot_tuple_getitem ht.typeIs entry_tuple_getitem ?_ (args_tuple_getitem _ _)))
 show wpAny _ _ (Builtin.Tuple.tupleItemsOf (.ref t)>>=_) _ _ s
 refine wpAny_bind (tupleItemsOf_ ht ?_)
 refine wpAny_bind (wpAny_typeOf IM ?_)
 rw[if_pos (by decide)]
 refine wpAny_bind (sliceApplied_gen hs pl pu ?_)
 have nj:¬((((sIx items.size 0 lo:Nat):Int)==0&&(1:Int)==1&&(sIx items.size items.size hi - sIx items.size 0 lo)==items.size)=true):=by
  intro q
  rw[Bool.and_eq_true,Bool.and_eq_true] at q
  have q1:((sIx items.size 0 lo:Nat):Int)=0:=eq_of_beq q.1.1
  have q2:sIx items.size items.size hi - sIx items.size 0 lo=items.size:=eq_of_beq q.2
  exact hw ⟨by omega,by omega⟩
 show wpAny _ _ (if (((sIx items.size 0 lo:Nat):Int)==0&&(1:Int)==1&&(sIx items.size items.size hi - sIx items.size 0 lo)==items.size)=true then _ else _) _ _ s
 rw[if_neg nj,pick_gen]
 first
  |exact wpAny_bind (m:=Builtin.Tuple.tupleExact _) (wpAny_newObj_type (wpAny_pure ⟨_,rfl,wpAny_pure h⟩) xS)
  |exact wpAny_bind (m:=Builtin.Tuple.tupleExact _) (wpAny_newObj_type (wpAny_bind (wpAny_pure (wpAny_pure ⟨_,rfl,wpAny_pure h⟩))) xS)
  |exact wpAny_bind (wpAny_bind (m:=Builtin.Tuple.tupleExact _) (wpAny_newObj_type (wpAny_pure (wpAny_pure ⟨_,rfl,wpAny_pure h⟩)) xS))
  |exact wpAny_bind (wpAny_bind (m:=Builtin.Tuple.tupleExact _) (wpAny_newObj_type (wpAny_pure ⟨_,rfl,wpAny_pure h⟩) xS))
end
end HT
namespace L2
open PySem PySem.Spec PyProof.Rows
abbrev TO:=St→Hp→(Option Int→Hp→Prop)→Prop
def PO(X:Cx)(e:Option Expr)(t:TO):Prop:=
 ∀(pins:List (Addr×Obj)) (s:Shared) (σ:St) (H:Hp) (Q:Option Int→Hp→Prop),Inv X pins σ H s→t σ H Q→
  wpAny (model X.prog X.w) X.A (evalPart e X.env) (fun u s'=>∃o H',Inv X pins σ H' s'∧IsPart u o∧Q o H') X.xe s
def E3:TO:=fun _ H Q=>Q none H
def Ki(t:TE):TO:=fun σ H Q=>t σ H fun x H1=>∃i,x= .int i∧Q (some i) H1
theorem intsAre_of{ns:List Int}:∀{us:List Value},Vals (ns.map V.int) us→IntsAre us ns:=by
 induction ns with
 |nil=>intro us r;rw[List.map_nil] at r;cases r;exact .nil
 |cons n ns ih=>
  intro us r
  rw[List.map_cons] at r
  cases r with
  |cons r1 r2=>
   obtain⟨t,e⟩:=r1
   subst e
   exact .cons n t (ih r2)
section
variable{X:Cx}{e:Expr}{te:TE}{lo hi:Option Expr}{tl th:TO}{pos p2:Pos}
theorem Ey:PO X none E3:=by
 intro pins s σ H Q I h
 rw[evalPart_none]
 exact wpAny_pure ⟨none,H,I, .none,h⟩
theorem Ez(h:PE X e te):PO X (some e) (Ki te):=by
 intro pins s σ H Q I hw
 rw[evalPart_some]
 refine bS (h pins s σ H _ I hw) fun u s1 ⟨x,H1,I1,r1,q1⟩=>?_
 obtain⟨i,rfl,q⟩:=q1
 obtain⟨t,rfl⟩:=r1
 exact⟨some i,H1,I1, .int i t,q⟩
def SlR(X:Cx)(r:V→Option Int→Option Int→Hp→VK→Prop):Prop:=
 ∀(pins:List (Addr×Obj)) (s:Shared) (σ:St) (H:Hp) (x:V) (v vl vu:Value) (lo hi:Option Int) (sl:Addr) (Q:VK),Inv X pins σ H s→RelV x v→s.heap.IsSliceOf sl vl vu .none→IsPart vl lo→IsPart vu hi→r x lo hi H Q→
  ∃T id,typeLookup (.type T) "__getitem__"=pure (some (.builtin id))∧s.TypeIs v T∧wpAny (model X.prog X.w) X.A (getItem v (.ref sl)) (EP X pins σ Q) X.xe s
theorem SlR.or{r r':V→Option Int→Option Int→Hp→VK→Prop}(h:SlR X r)(h':SlR X r'):SlR X (fun x lo hi H Q=>r x lo hi H Q∨r' x lo hi H Q):=by
 intro pins s σ H x v vl vu lo hi sl Q I rx hs pl pu q
 rcases q with q | q
 ·exact h pins s σ H x v vl vu lo hi sl Q I rx hs pl pu q
 ·exact h' pins s σ H x v vl vu lo hi sl Q I rx hs pl pu q
def Pz(r:V→Option Int→Option Int→Hp→VK→Prop)(te:TE)(tl th:TO):TE:=fun σ H Q=>te σ H fun x H1=>tl σ H1 fun l H2=>th σ H2 fun u H3=>r x l u H3 Q
theorem B6{r:V→Option Int→Option Int→Hp→VK→Prop}(hr:SlR X r)(he:PE X e te)(hl:PO X lo tl)(hu:PO X hi th):PE X (.Subscript e (.Slice lo hi none p2) pos) (Pz r te tl th):=by
 intro pins s σ H Q I h
 refine Subscript_ (bS (he pins s σ H _ I h) fun v s1 ⟨x,H1,I1,r1,q1⟩=>?_)
 refine wpAny_Slice (bS (hl pins s1 σ H1 _ I1 q1) fun vl s2 ⟨l,H2,I2,pl,q2⟩=>bS (hu pins s2 σ H2 _ I2 q2) fun vu s3 ⟨u,H3,I3,pu,q3⟩=>?_)
 rw[evalPart_none]
 refine wpAny_pure ?_
 have I4:Inv X pins σ H3 {s3 with heap:=s3.heap.push {cls:= .type "slice",data:= .fields #[vl,vu, .none]} }:=I3.kept (t':=s3.toks) fun b ob q=>Heap.get?_push_of_some _ q
 obtain⟨T,id,hT,ht,hg⟩:=hr pins {s3 with heap:=s3.heap.push {cls:= .type "slice",data:= .fields #[vl,vu, .none]} } σ H3 x v vl vu l u s3.heap.objs.size Q I4 r1 (Heap.IsSliceOf.new ..) pl pu q3
 show wpAny (model X.prog X.w) X.A (subscriptTail e (.Slice lo hi none p2) v (.ref s3.heap.objs.size)) (EP X pins σ Q) X.xe {s3 with heap:=s3.heap.push {cls:= .type "slice",data:= .fields #[vl,vu, .none]} }
 exact tail_any (ops:=[.ref s3.heap.objs.size,v]) ht hT hg (by with_unfolding_all rfl)
def tZ(xs:List V)(lo hi:Option Int):List V:=(xs.drop (HT.sIx xs.length 0 lo)).take (HT.sIx xs.length xs.length hi - HT.sIx xs.length 0 lo)
theorem lz(xs:List V)(lo hi:Option Int):(tZ xs lo hi).length≤xs.length:=by
 unfold tZ
 rw[List.length_take,List.length_drop]
 omega
def Ms(K:W.Frag):V→Option Int→Option Int→Hp→VK→Prop:=fun x lo hi H Q=>∃a xs,x= .ref a∧SqT K H a xs∧
 ¬(HT.sIx xs.length 0 lo=0∧HT.sIx xs.length xs.length hi=xs.length)∧∀p,H p=none→Q (.ref p) (upd H p (.tup (tZ xs lo hi)))
theorem HK:SlR X (Ms X.K):=by
 intro pins s σ H x v vl vu lo hi sl Q I rx hs pl pu h
 obtain⟨a,xs,rfl,hx,hw,q⟩:=h
 cases rx
 obtain⟨aG,r,ht,hz⟩:=I.tuple hx
 have hlen:aG.toArray.size=xs.length:=by rw[List.size_toArray];exact r.length.symm
 refine⟨"tuple",_,PyProof.Rows.slot_tuple_getitem.lookup,ht.typeIs,?_⟩
 refine HT.getItem_tuple_cut ht hs pl pu (by rw[hlen];exact hw) ?_ (by rw[hlen];exact hz)
 rw[hlen]
 refine⟨.ref s.heap.objs.size,_,I.laid (t':=s.toks) (o:= .tup (tZ xs lo hi)) (fun b ob q=>Heap.get?_push_of_some _ q) (Nat.le_refl _) ?_,rfl,q _ (I.hok.fresh (Nat.le_refl _))⟩
 exact⟨Nat.le_trans (lz xs lo hi) hz,_,(r.drop (HT.sIx xs.length 0 lo)).take (HT.sIx xs.length xs.length hi - HT.sIx xs.length 0 lo),IsTup.new _ _⟩
def JW(K:W.Frag):R2:=fun x y H Q=>∃a b xs ys,x= .ref a∧y= .ref b∧SqT K H a xs∧SqT K H b ys∧xs≠[]∧xs.length+ys.length≤sizeLine∧
 (ys=[]→Q (.ref a) H)∧(ys≠[]→∀p,H p=none→Q (.ref p) (upd H p (.tup (xs++ys))))
theorem Vals.nil_iff{xs:List V}{us:List Value}(r:Vals xs us):us=[]↔xs=[]:=by
 cases r with
 |nil=>simp
 |cons _ _=>simp
theorem Eb:OpR X (binaryOp .Add) (JW X.K):=by
 intro pins s σ H x y v u Q I rx ry h
 obtain⟨a,b,xs,ys,rfl,rfl,ha,hb,hx,hz,q1,q2⟩:=h
 cases rx
 cases ry
 obtain⟨aG,r1,p1,_⟩:=I.tuple ha
 obtain⟨fL,r2,p2,_⟩:=I.tuple hb
 refine HT.cat_tup p1 p2 (fun z=>hx (r1.nil_iff.mp z)) (fun z=>⟨.ref a,H,I,rfl,q1 (r2.nil_iff.mp z)⟩) (fun z=>?_) (by rw[←r1.length,←r2.length];exact hz)
 refine⟨.ref s.heap.objs.size,_,I.laid (t':=s.toks) (o:= .tup (xs++ys)) (fun b ob q=>Heap.get?_push_of_some _ q) (Nat.le_refl _) ?_,rfl,q2 (fun w=>z (r2.nil_iff.mpr w)) _ (I.hok.fresh (Nat.le_refl _))⟩
 exact⟨by rw[List.length_append];exact hz,_,r1.append r2,IsTup.new _ _⟩
end
def De(n:Nat)(i:Int):Option Nat:=if 0≤i then(if i<n then some i.toNat else none) else if -(n:Int)≤i then some (i+n).toNat else none
def atI{α:Type}(xs:List α)(i:Int):Option α:=(De xs.length i).bind fun j=>xs[j]?
theorem DW{n:Nat}{i:Int}{j:Nat}(h:De n i=some j):seqIndex? i n=some j∧j<n∧ -(n:Int)≤i∧i<n:=by
 unfold De at h
 by_cases h0:0≤i
 ·rw[if_pos h0] at h
  by_cases h1:i<n
  ·rw[if_pos h1] at h
   have e:i.toNat=j:=Option.some.inj h
   exact⟨by rw[seqIndex_of h0 h1,e],by omega,by omega,h1⟩
  ·rw[if_neg h1] at h;cases h
 ·rw[if_neg h0] at h
  by_cases h1: -(n:Int)≤i
  ·rw[if_pos h1] at h
   have e:(i+n).toNat=j:=Option.some.inj h
   exact⟨by rw[seqIndex_neg (by omega) h1,e],by omega,h1,by omega⟩
  ·rw[if_neg h1] at h;cases h
theorem rq{α:Type}{xs:List α}{i:Int}{v:α}(h:atI xs i=some v):∃j,seqIndex? i xs.length=some j∧xs[j]? =some v∧j<xs.length∧ -(xs.length:Int)≤i∧i<xs.length:=by
 unfold atI at h
 cases e:De xs.length i with
 |none=>rw[e] at h;cases h
 |some j=>
  rw[e] at h
  obtain⟨h1,h2,h3,h4⟩:=DW e
  exact⟨j,h1,h,h2,h3,h4⟩
theorem tP{α:Type}(xs:List α)(v:α):atI (xs++[v]) (-1)=some v:=by
 have hl:(xs++[v]).length=xs.length+1:=by simp
 have e:De (xs++[v]).length (-1)=some xs.length:=by
  unfold De
  rw[hl,if_neg (by decide),if_pos (by omega)]
  congr 1
  omega
 unfold atI
 rw[e]
 show (xs++[v])[xs.length]? =some v
 simp
def iq(b:Expr):Prop:=∀o i,subscripted b false o i=operate [o,i] (getItem o i)
def Il(X:Cx)(r:R2):Prop:=
 ∀(value slice:Expr) (pins:List (Addr×Obj)) (s:Shared) (σ:St) (H:Hp) (x y:V) (v u:Value) (Q:VK),Inv X pins σ H s→RelV x v→RelV y u→r x y H Q→
  subscripted slice false v u=operate [v,u] (getItem v u)→wpAny (model X.prog X.w) X.A (subscriptTail value slice v u) (EP X pins σ Q) X.xe s
def K8(X:Cx)(id:String)(r:V→List V→Hp→VK→Prop):Prop:=
 ∀(pins:List (Addr×Obj)) (s:Shared) (σ:St) (H:Hp) (x:V) (xs:List V) (v:Value) (us:List Value) (Q:VK),Inv X pins σ H s→RelV x v→Vals xs us→r x xs H Q→
  wpAny (model X.prog X.w) X.A (call (.builtin id) (v::us)) (EP X pins σ Q) X.xe s
section
variable{X:Cx}{a b:Expr}{ta tb:TE}{pos:Pos}
theorem JO{r:R2}(hr:Il X r)(ha:PE X a ta)(hb:PE X b tb)(hs:iq b):PE X (.Subscript a b pos) (Kh r ta tb):=by
 intro pins s σ H Q I h
 exact Subscript_ (FR ha hb I h fun v u s2 x y H2 I2 rx ry q=>hr a b pins s2 σ H2 x y v u Q I2 rx ry q (hs _ _))
def Hz(K:W.Frag):R2:=fun x y H Q=>∃p xs i v,x= .ref p∧y= .int i∧SqL K H p xs∧atI xs i=some v∧Q v H
def J1(K:W.Frag):R2:=fun x y H Q=>∃p xs i v,x= .ref p∧y= .int i∧SqT K H p xs∧atI xs i=some v∧Q v H
def J0:R2:=fun x y H Q=>∃z i c,x= .str z∧y= .int i∧z.length≤sizeLine∧atI z.cps.toList i=some c∧Q (.str ⟨#[c]⟩) H
theorem xW:Il X (Hz X.K):=by
 intro value slice pins s σ H x y v u Q I rx ry h hs
 obtain⟨p,xs,i,z,rfl,rfl,hq,he,q⟩:=h
 cases rx
 obtain⟨t,rfl⟩:=ry
 obtain⟨aG,r,pl,hz⟩:=I.list hq
 obtain⟨j,h1,h2,h3,h4,h5⟩:=rq he
 obtain⟨w,ew,Ae⟩:=r.get h2
 have hl:=r.length
 have hn:=kG
 have fin:EP X pins σ Q w s:=⟨z,H,I,Ae,q⟩
 by_cases h0:0≤i
 ·have hj:i.toNat=j:=by
   rw[seqIndex_of h0 h5] at h1
   exact Option.some.inj h1
  exact item_listR pl.isList h0 (by omega) (by rw[hj];simpa using ew) fin hs
 ·have hj:(i+(aG.toArray.size:Int)).toNat=j:=by
   rw[seqIndex_neg (by omega) h4] at h1
   rw[List.size_toArray,←hl]
   exact Option.some.inj h1
  exact subscriptTail_builtinR (x:=w) pl.isList.typeIs slot_list_getitem.lookup
   (wpAny_getItem_list_neg (Q:=fun r s'=>r=w∧EP X pins σ Q r s') pl.isList (by omega) (by rw[List.size_toArray]<;>omega) (by omega) (by rw[hj];simpa using ew) ⟨rfl,fin⟩) hs
theorem GS:Il X (J1 X.K):=by
 intro value slice pins s σ H x y v u Q I rx ry h hs
 obtain⟨p,xs,i,z,rfl,rfl,hq,he,q⟩:=h
 cases rx
 obtain⟨t,rfl⟩:=ry
 obtain⟨aG,r,pl,hz⟩:=I.tuple hq
 obtain⟨j,h1,h2,h3,h4,h5⟩:=rq he
 obtain⟨w,ew,Ae⟩:=r.get h2
 have hl:=r.length
 have hn:=kG
 have fin:EP X pins σ Q w s:=⟨z,H,I,Ae,q⟩
 exact subscriptTail_builtinR (x:=w) pl.typeIs slot_tuple_getitem.lookup
  (getItem_tuple (j:=j) (Q:=fun r s'=>r=w∧EP X pins σ Q r s') pl (by omega) (by omega) (by rw[List.size_toArray,←hl];exact h1) (by simpa using ew) ⟨rfl,fin⟩) hs
theorem GR:Il X J0:=by
 intro value slice pins s σ H x y v u Q I rx ry h hs
 obtain⟨z,i,c,rfl,rfl,hz,he,q⟩:=h
 obtain⟨t,rfl⟩:=rx
 obtain⟨t',rfl⟩:=ry
 obtain⟨j,h1,h2,h3,h4,h5⟩:=rq he
 have hl:z.cps.toList.length=z.length:=by simp[Str.length]
 rw[hl] at h1 h4 h5
 have hn:=kG
 exact tail_any (typeIs_str s z t) slot_str_getitem.lookup (getItem_str (c:=c) (by
  have e1:decide (i< -(2 ^ 63:Int))=false:=decide_eq_false (by omega)
  have e2:decide (i≥2 ^ 63)=false:=decide_eq_false (by omega)
  rw[e1,e2,Bool.or_false]) (by rw[h1];simpa using h2) ⟨.str ⟨#[c]⟩,H,I.tok _,⟨_,rfl⟩,q⟩) hs
theorem Inv.lst{pins:List (Addr×Obj)}{σ:St}{H:Hp}{s:Shared}{p:Addr}{xs:List V}(I:Inv X pins σ H s)(h:H p=some (.lst xs)):
 ∃(aG:List Value) (n:Nat),Vals xs aG∧s.heap.get? p=some {cls:= .type "list",data:= .seq aG.toArray n}∧xs.length≤sizeLine:=by
 obtain⟨z,aG,n,r,e⟩:=I.hok p _ h
 exact⟨aG,n,r,e,z⟩
theorem sZ(lo hi:Option Int)(n:Nat):(sliceBounds lo hi none n).1=((HT.sIx n 0 lo:Nat):Int)∧(sliceBounds lo hi none n).2.1=((HT.sIx n n hi:Nat):Int)∧(sliceBounds lo hi none n).2.2=1:=by
 refine⟨?_,?_,rfl⟩
 ·cases lo with
  |none=>simp[sliceBounds,HT.sIx]
  |some i=>
   simp only[sliceBounds,HT.sIx,Option.getD_none,show (1:Int)>0 by decide,if_true]
   by_cases h:i<0
   ·simp only[h,if_true]<;>omega
   ·simp only[h,if_false]<;>omega
 ·cases hi with
  |none=>simp[sliceBounds,HT.sIx]
  |some i=>
   simp only[sliceBounds,HT.sIx,Option.getD_none,show (1:Int)>0 by decide,if_true]
   by_cases h:i<0
   ·simp only[h,if_true]<;>omega
   ·simp only[h,if_false]<;>omega
theorem pN(aG:List Value)(lo hi:Option Int):slicePick aG.toArray lo hi none=((aG.drop (HT.sIx aG.length 0 lo)).take (HT.sIx aG.length aG.length hi - HT.sIx aG.length 0 lo)).toArray:=by
 obtain⟨h1,h2,h3⟩:=sZ lo hi aG.toArray.size
 unfold slicePick
 rw[h1,h2,h3]
 simp only[sliceRange_one,pick_run,List.size_toArray]<;>rfl
def Mr(K:W.Frag):V→Option Int→Option Int→Hp→VK→Prop:=fun x lo hi H Q=>∃a xs,x= .ref a∧SqL K H a xs∧∀p,H p=none→Q (.ref p) (upd H p (.lst (tZ xs lo hi)))
theorem EU:SlR X (Mr X.K):=by
 intro pins s σ H x v vl vu lo hi sl Q I rx hs pl pu h
 obtain⟨a,xs,rfl,hx,q⟩:=h
 cases rx
 obtain⟨aG,r,ht,hz⟩:=I.list hx
 have hlen:=r.length
 refine⟨"list",_,slot_list_getitem.lookup,ht.isList.typeIs,?_⟩
 refine wpAny_getItem_list_slice ht.isList hs pl pu .none (by simp) ?_ (by rw[List.size_toArray]<;>omega)
 rw[pN,←hlen]
 refine⟨.ref s.heap.objs.size,_,I.laid (t':=s.toks) (o:= .lst (tZ xs lo hi)) (fun b ob q=>Heap.get?_push_of_some _ q) (Nat.le_refl _) ?_,rfl,q _ (I.hok.fresh (Nat.le_refl _))⟩
 exact⟨Nat.le_trans (lz xs lo hi) hz,_,0,(r.drop (HT.sIx xs.length 0 lo)).take (HT.sIx xs.length xs.length hi - HT.sIx xs.length 0 lo),Heap.get?_push_size _ rfl⟩
def lB:V→Bool
 | .non=>true
 | .bl _=>true
 | .int _=>true
 | .str _=>true
 |_=>false
def C9:V→V→Bool
 | .non, .non=>true
 | .bl a, .bl b=>a==b
 | .bl a, .int b=>(if a then 1 else 0)==b
 | .int a, .bl b=>a==(if b then 1 else 0)
 | .int a, .int b=>a==b
 | .str a, .str b=>a==b
 |_,_=>false
theorem FZ{A:Around}{s:Shared}{y x:V}{u v:Value}(ry:RelV y u)(rx:RelV x v)(fy:lB y=true)(fx:lB x=true):SeqAt.EqAt A s u v (C9 y x):=by
 cases y with
 |non=>
  cases ry
  cases x with
  |non=>cases rx;exact SeqAt.EqAt.same _
  |bl b=>cases rx;exact SeqAt.EqAt.none_bool b
  |int b=>obtain⟨t,rfl⟩:=rx;exact SeqAt.EqAt.none_int b t
  |str b=>obtain⟨t,rfl⟩:=rx;exact SeqAt.EqAt.none_str b t
  |_=>exact absurd (show false=true from fx) Bool.false_ne_true
 |bl a=>
  cases ry
  cases x with
  |non=>cases rx;exact SeqAt.EqAt.bool_none a
  |bl b=>cases rx;exact SeqAt.EqAt.bool_bool a b
  |int b=>obtain⟨t,rfl⟩:=rx;exact SeqAt.EqAt.bool_int a b t
  |str b=>obtain⟨t,rfl⟩:=rx;exact SeqAt.EqAt.bool_str a b t
  |_=>exact absurd (show false=true from fx) Bool.false_ne_true
 |int a=>
  obtain⟨t',rfl⟩:=ry
  cases x with
  |non=>cases rx;exact SeqAt.EqAt.int_none a t'
  |bl b=>cases rx;exact SeqAt.EqAt.int_bool a t' b
  |int b=>obtain⟨t,rfl⟩:=rx;exact SeqAt.EqAt.int_int a t' b t
  |str b=>obtain⟨t,rfl⟩:=rx;exact SeqAt.EqAt.int_str a t' b t
  |_=>exact absurd (show false=true from fx) Bool.false_ne_true
 |str a=>
  obtain⟨t',rfl⟩:=ry
  cases x with
  |non=>cases rx;exact SeqAt.EqAt.str_none a t'
  |bl b=>cases rx;exact SeqAt.EqAt.str_bool a t' b
  |int b=>obtain⟨t,rfl⟩:=rx;exact SeqAt.EqAt.str_int a t' b t
  |str b=>obtain⟨t,rfl⟩:=rx;exact SeqAt.EqAt.str_str a t' b t
  |_=>exact absurd (show false=true from fx) Bool.false_ne_true
 |_=>exact absurd (show false=true from fy) Bool.false_ne_true
def Dx(x:V)(u:Value):Bool:=match u with
 | .none=>C9 .non x
 | .bool b=>C9 (.bl b) x
 | .int i _=>C9 (.int i) x
 | .str z _=>C9 (.str z) x
 |_=>false
theorem AQ{x y:V}{u:Value}(r:RelV y u)(f:lB y=true):Dx x u=C9 y x:=by
 cases y with
 |non=>cases r;rfl
 |bl b=>cases r;rfl
 |int i=>obtain⟨t,rfl⟩:=r;rfl
 |str z=>obtain⟨t,rfl⟩:=r;rfl
 |_=>exact absurd (show false=true from f) Bool.false_ne_true
theorem rm{x:V}:∀{xs:List V}{us:List Value},Vals xs us→xs.all lB=true→us.any (Dx x)=xs.any fun y=>C9 y x
 |_,_, .nil,_=>rfl
 |y::xs,u::us, .cons r t,f=>by
  rw[List.all_cons,Bool.and_eq_true] at f
  rw[List.any_cons,List.any_cons,AQ r f.1,rm t f.2]
theorem nK{A:Around}{s:Shared}{x:V}{v:Value}(rx:RelV x v)(fx:lB x=true):∀{xs:List V}{us:List Value},Vals xs us→xs.all lB=true→∀u∈us,SeqAt.EqAt A s u v (Dx x u)
 |_,_, .nil,_=>fun u hu=>by cases hu
 |y::xs,u::us, .cons r t,f=>fun u' hu=>by
  rw[List.all_cons,Bool.and_eq_true] at f
  rcases List.mem_cons.mp hu with rfl | hu
  ·rw[AQ r f.1];exact FZ r rx f.1 fx
  ·exact nK rx fx t f.2 u' hu
def KO(x:V)(xs:List V):Bool:=xs.any fun y=>C9 y x
def NM(K:W.Frag)(neg:Bool):R2:=fun x y H Q=>∃p xs,y= .ref p∧(SqL K H p xs∨SqT K H p xs)∧lB x=true∧xs.all lB=true∧Q (.bl (if neg then !KO x xs else KO x xs)) H
theorem sv:OpR X (compareOp .NotIn) (NM X.K true):=by
 intro pins s σ H x y v u Q I rx ry h
 obtain⟨p,xs,rfl,hq,fx,fs,q⟩:=h
 cases ry
 rcases hq with hq | hq
 ·obtain⟨aG,r,pl,hz⟩:=I.list hq
  refine SeqAt.notIn_listAt (Dx x) pl.isList (fun w hw=>nK rx fx r fs w (by simpa using hw)) ⟨.bl _,H,I,rfl,?_⟩
  rw[show aG.toArray.any (Dx x)=aG.any (Dx x) by simp,rm r fs]
  exact q
 ·obtain⟨aG,r,pl,hz⟩:=I.tuple hq
  refine SeqAt.notIn_tupleAt (Dx x) pl (fun w hw=>nK rx fx r fs w (by simpa using hw)) ⟨.bl _,H,I,rfl,?_⟩
  rw[show aG.toArray.any (Dx x)=aG.any (Dx x) by simp,rm r fs]
  exact q
theorem rD:CallR X (.builtin "len") (fun xs H Q=>∃p ys,xs=[.ref p]∧(SqL X.K H p ys∨SqT X.K H p ys)∧Q (.int ys.length) H):=by
 intro pins s σ H xs us Q I r h
 obtain⟨p,ys,rfl,hq,q⟩:=h
 obtain⟨u,rfl,rx⟩:=vals1 r
 cases rx
 have hn:=kG
 rcases hq with hq | hq
 ·obtain⟨aG,r',pl,hz⟩:=I.list hq
  have hlen:=r'.length
  exact Calls.call_len_list pl.isList (by simp only[List.size_toArray]<;>omega) ⟨.int ys.length,H,I.tok _,⟨s.toks+1,by rw[List.size_toArray,hlen]⟩,q⟩
 ·obtain⟨aG,r',pl,hz⟩:=I.tuple hq
  have hlen:=r'.length
  exact len_tuple pl (by simp only[List.size_toArray]<;>omega) ⟨.int ys.length,H,I.tok _,⟨s.toks+1,by rw[List.size_toArray,hlen]⟩,q⟩
theorem rE:CallR X (.builtin "len") (fun xs H Q=>∃z,xs=[.str z]∧z.length≤sizeLine∧Q (.int z.length) H):=by
 intro pins s σ H xs us Q I r h
 obtain⟨z,rfl,hz,q⟩:=h
 obtain⟨u,rfl,t,rfl⟩:=vals1 r
 have hn:=kG
 exact len_str (by omega) ⟨.int z.length,H,I.tok _,⟨_,rfl⟩,q⟩
theorem CallR.or{f:Value}{r r':List V→Hp→VK→Prop}(h:CallR X f r)(h':CallR X f r'):CallR X f (fun xs H Q=>r xs H Q∨r' xs H Q):=by
 intro pins s σ H xs us Q I rs q
 rcases q with q | q
 ·exact h pins s σ H xs us Q I rs q
 ·exact h' pins s σ H xs us Q I rs q
theorem pf:CallR X (.type "tuple") (fun xs H Q=>∃p ys,xs=[.ref p]∧((SqL X.K H p ys∧∀l,H l=none→Q (.ref l) (upd H l (.tup ys)))∨(SqT X.K H p ys∧Q (.ref p) H))):=by
 intro pins s σ H xs us Q I r h
 obtain⟨p,ys,rfl,h⟩:=h
 obtain⟨u,rfl,rx⟩:=vals1 r
 cases rx
 rcases h with⟨hq,q⟩ | ⟨hq,q⟩
 ·obtain⟨aG,r',pl,hz⟩:=I.list hq
  have hlen:=r'.length
  refine call_tuple_list pl.isList (fun h' kp=>?_) (by simp only[List.size_toArray]<;>omega)
  have I1:Inv X pins σ H {s with heap:=h'}:=I.kept (t':=s.toks) kp
  have I2:Inv X pins σ (upd H h'.objs.size (.tup ys)) {s with heap:=h'.push {cls:= .type "tuple",data:= .seq aG.toArray} }:=
   I1.laid (t':=s.toks) (fun b o e=>Heap.get?_push_of_some _ e) (Nat.le_refl _) (show ObjOk X.prog X.w _ _ _ (.tup ys) from⟨hz,aG,r',IsTup.new _ _⟩)
  exact⟨.ref h'.objs.size,_,I2,rfl,q _ (I1.hok.fresh (Nat.le_refl _))⟩
 ·obtain⟨aG,r',pl,hz⟩:=I.tuple hq
  exact call_tuple_same pl ⟨.ref p,H,I,rfl,q⟩
def K3(K:W.Frag)(T:String)(x:V)(H:Hp):Prop:=match x with
 | .str _=>T="str"
 | .int _=>T="int"
 | .ref p=>(T="list"∧∃xs,SqL K H p xs)∨(T="tuple"∧∃o,K.lookup p=some o∧o.cls= .type "tuple"∧o.dict=none)∨
    (T="dict"∧((∃aw,H p=some (.dK aw))∨∃aw,H p=some (.dT aw)))∨(T="set"∧∃S n,H p=some (.set S n))
 |_=>False
theorem HS{pins:List (Addr×Obj)}{σ:St}{H:Hp}{s:Shared}{T:String}{x:V}{v:Value}(I:Inv X pins σ H s)(r:RelV x v)(ty:K3 X.K T x H):
 s.TypeIs v T∧∀a,v= .ref a→∃ob,s.heap.get? a=some ob∧ob.dict=none:=by
 cases x with
 |str z=>
  obtain⟨t,rfl⟩:=r
  cases (show T="str" from ty)
  exact⟨typeIs_str s z t,fun _ e=>nomatch e⟩
 |int i=>
  obtain⟨t,rfl⟩:=r
  cases (show T="int" from ty)
  exact⟨typeIs_int s i t,fun _ e=>nomatch e⟩
 |ref p=>
  cases r
  rcases ty with⟨rfl,xs,hq⟩ | ⟨rfl,o,hk,hc,hd⟩ | ⟨rfl,hk⟩ | ⟨rfl,S,n,hk⟩
  ·obtain⟨aG,_,pl,_⟩:=I.list hq
   refine⟨pl.isList.typeIs,fun a e=>?_⟩
   cases e
   obtain⟨o,n,e,c,hd,_⟩:=pl
   exact⟨o,e,hd⟩
  ·refine⟨⟨o,I.kIn p o hk,hc⟩,fun a e=>?_⟩
   cases e
   exact⟨o,I.kIn _ o hk,hd⟩
  ·have z:∃o,s.heap.get? p=some o∧o.ExactDict:=by
    rcases hk with⟨aw,hk⟩ | ⟨aw,hk⟩
    ·obtain⟨_,_,_,_,o,_,_,e,ex,_⟩:=I.hok p _ hk
     exact⟨o,e,ex⟩
    ·obtain⟨_,_,_,_,o,_,_,e,ex,_⟩:=I.hok p _ hk
     exact⟨o,e,ex⟩
   obtain⟨o,e,ex⟩:=z
   refine⟨⟨o,e,ex.1⟩,fun a e2=>?_⟩
   cases e2
   exact⟨o,e,ex.2.1⟩
  ·obtain⟨o,_,_,_,e,ex,_⟩:=I.hok p _ hk
   refine⟨⟨o,e,ex.1⟩,fun a e2=>?_⟩
   cases e2
   exact⟨o,e,ex.2.1⟩
 |_=>exact False.elim ty
def Mw(K:W.Frag)(T:String)(r:V→List V→Hp→VK→Prop)(to:TE)(t:TA):TE:=fun σ H Q=>to σ H fun x H1=>K3 K T x H1∧t σ H1 fun xs H2=>r x xs H2 Q
variable{o e:Expr}{es:List Expr}{to:TE}{t:TA}{name:Str}{apos bp:Pos}{T id:String}{r:V→List V→Hp→VK→Prop}
theorem B1(pa:PlainAttrs T)(slot:Slot T name id)(LZ:typeOf (.builtin id)=pure (.type "method_descriptor"))(hm:K8 X id r)(ho:PE X o to)(ha:PA X (e::es) t)
 (jw:attributeBase o name X.env (eval o X.env)=eval o X.env:=by rfl)
 (rR:((backTo bp (starEach (e::es) X.env)).all (fun x=>!x.1)&&(backToKw bp (keywordEach [] X.env)).all (fun x=>x.1.isSome)
  &&decide ((e::es).length+([]:List Keyword).length+(if ([]:List Keyword).isEmpty then 0 else 1)<30))=true:=by rfl)
 (jx:(apos.endLine==bp.line)=true:=by rfl) (hs:starEach (e::es) X.env=(false,eval e X.env)::starEach es X.env:=by rfl) (wb:(backTo bp (starEach es X.env)).any (·.1)=false:=by rfl):
 PE X (.Call (.Attribute o name apos) (e::es) [] bp) (Mw X.K T r to t):=by
 intro pins s σ H Q I h
 refine wpAny_Call_method_late jw rR jx rfl (bS (ho pins s σ H _ I h) fun v s1 ⟨x,H1,I1,r1,ty,q1⟩=>?_)
 obtain⟨h1,h2⟩:=HS I1 r1 ty
 refine⟨T,id,pa,slot,LZ,h1,h2,?_⟩
 have hA:=ha bp pins s1 σ H1 _ I1 q1
 rw[hs] at hA⊢
 refine Calls.callWith_builtin (by show (false||(backTo bp (starEach es X.env)).any (·.1))=false;rw[wb]<;>rfl) (Calls.evalArgs_plain ?_)
 exact bS hA fun us s2 ⟨vs,H2,I2,r2,q2⟩=>hm pins s2 σ H2 x vs v us Q I2 r1 r2 q2
end
def MP(X:Cx)(id:String)(r:V→List V→Hp→VK→Prop):Prop:=
 ∀(pins:List (Addr×Obj)) (s:Shared) (σ:St) (H:Hp) (x:V) (xs:List V) (v:Value) (us:List Value) (Q:VK),Inv X pins σ H s→RelV x v→Vals xs us→r x xs H Q→
  wpAny (model X.prog X.w) X.A (call (.builtin id) (v::us)) (EP X pins σ Q) X.xe s
theorem Vals.one:∀{x:V}{us:List Value},Vals [x] us→∃u,us=[u]∧RelV x u
 |_,_, .cons r .nil=>⟨_,rfl,r⟩
theorem Vals.reverse{xs:List V}{us:List Value}(h:Vals xs us):Vals xs.reverse us.reverse:=by
 induction h with
 |nil=>exact .nil
 |cons r t ih=>rw[List.reverse_cons,List.reverse_cons];exact Vals.append ih (.cons r .nil)
section
variable{X:Cx}{pins:List (Addr×Obj)}{σ:St}{H:Hp}{s:Shared}{l b:Addr}{xs ys zs:List V}
theorem Inv.lset{aG its':List Value}{n:Nat}{f:Array Value→Array Value}{t':Nat}(I:Inv X pins σ H s)(hH:H l=some (.lst xs))
 (e:s.heap.get? l=some {cls:= .type "list",data:= .seq aG.toArray n})(hf:f aG.toArray=its'.toArray)(hv:Vals ys its')(hz:ys.length≤sizeLine):
 Inv X pins σ (upd H l (.lst ys)) {s with heap:=s.heap.update l (Obj.mapSeq f),toks:=t'}:=by
 have q:=PySem.IsL.update e f
 rw[hf] at q
 refine I.write (x:=l) (e:=l) (by rw[hH];exact trivial) (.inl rfl) (fun b' u hb hu=>(Heap.get?_update_other s.heap (Obj.mapSeq f) (Ne.symm hb)).trans hu) ⟨_,q⟩ ?_
 exact⟨hz,its',_,hv,q⟩
theorem Inv.lstM(I:Inv X pins σ H s)(hH:H l=some (.lst xs)):xs.length≤sizeLine∧∃(aG:List Value) (n:Nat),Vals xs aG∧xs.length=aG.length∧s.heap.get? l=some {cls:= .type "list",data:= .seq aG.toArray n}:=by
 obtain⟨z,aG,n,r,e⟩:=I.hok l _ hH
 exact⟨z,aG,n,r,r.length,e⟩
theorem BC{n:Nat}(h:n≤sizeLine):Builtin.List.listTooLong n=false:=by
 unfold Builtin.List.listTooLong
 exact decide_eq_false (by omega)
end
section
variable{X:Cx}
def yr:V→List V→Hp→VK→Prop:=fun x vs H Q=>∃l xs y,x= .ref l∧vs=[y]∧H l=some (.lst xs)∧xs.length<sizeLine∧Q .non (upd H l (.lst (xs++[y])))
theorem qx:MP X "list.append" yr:=by
 intro pins s σ H x vs v us Q I rx rv h
 obtain⟨l,xs,y,rfl,rfl,hH,hz,q⟩:=h
 cases rx
 obtain⟨u,rfl,ru⟩:=rv.one
 obtain⟨z,aG,n,r,hl,e⟩:=I.lstM hH
 refine call_meets F.slot_list_append ⟨_,e,rfl⟩ F.entry_list_append (F.args_list_append_2 _ _) (PySem.list_append l aG.toArray n u (by rw[List.size_toArray];omega)) ⟨e,?_⟩
 refine⟨.non,_,I.lset (its':=aG++[u]) hH e (by simp) (r.append (.cons ru .nil)) ?_,rfl,q⟩
 rw[List.length_append,List.length_singleton]
 omega
def yt:V→List V→Hp→VK→Prop:=fun x vs H Q=>∃l b xs zs,x= .ref l∧vs=[.ref b]∧H l=some (.lst xs)∧H b=some (.lst zs)∧xs.length+zs.length≤sizeLine∧Q .non (upd H l (.lst (xs++zs)))
theorem zu:MP X "list.extend" yt:=by
 intro pins s σ H x vs v us Q I rx rv h
 obtain⟨l,b,xs,zs,rfl,rfl,hH,hB,hz,q⟩:=h
 cases rx
 obtain⟨u,rfl,ru⟩:=rv.one
 cases ru
 obtain⟨z,aG,n,r,hl,e⟩:=I.lstM hH
 obtain⟨z2,fL,n2,r2,Gp,e2⟩:=I.lstM hB
 have hsz:aG.toArray.size+fL.toArray.size≤sizeLine:=by rw[List.size_toArray,List.size_toArray];omega
 have Jc:¬(!aG.toArray.isEmpty&&Builtin.List.listTooLong (aG.toArray.size+fL.toArray.size))=true:=by
  rw[BC hsz,Bool.and_false]
  exact Bool.false_ne_true
 refine call_meets F.slot_list_extend ⟨_,e,rfl⟩ F.entry_list_extend (F.args_list_extend_2 _ _)
  (AutoSeq1.list_extend_list_list_0 l aG.toArray n b fL.toArray n2 Jc (by rw[List.size_toArray];omega) (by omega)) ⟨e,e2,?_⟩
 refine⟨.non,_,I.lset (its':=aG++fL) hH e (by simp) (r.append r2) ?_,rfl,q⟩
 rw[List.length_append]
 omega
end
section
variable{prog:Program}{w:World}{A:Around}{E:Value→Shared→Prop}{s:Shared}
end
section
variable{X:Cx}
end
end L2
namespace Att
open PySem PySem.W PySem.Calls PyProof.Rows
theorem ints_of_wellAll{P:Params}{h:Heap}:∀(ns:List Int) (vs:List Value),WellAll P h vs (ns.map WData.int)→IntsAre vs ns:=by
 intro ns
 induction ns with
 |nil=>
  intro vs w
  rw[List.map_nil] at w
  cases w
  exact .nil
 |cons n ns ih=>
  intro vs w
  rw[List.map_cons] at w
  cases w with
  |cons a b=>
   cases a
   exact .cons _ _ (ih _ b)
theorem script_of{l:OpenLaw}{n:Nat}(hn:l.most=some n){P:Params}{h:Heap}{args:List WData}{vals:List Value}
 (DL:l.row.toRowW.claim.pre args=true)(L4:WellAll P h vals args):
 ∃a vs ns,vals=[Value.ref a]∧args=[WData.list (ns.map WData.int)]∧h.get? a=some {cls:= .type "list",data:= .seq vs.toArray}∧IntsAre vs ns∧ns.length≤n:=by
 have O1:WShape.hasAll [] args [.list .int]=true:=(pre_splitW DL).1
 have hc:l.pre.holds [] {args:=args}=true:=(pre_splitW DL).2
 obtain⟨d,r,rfl,h1,h2⟩:=hasAllW_cons O1
 obtain rfl:=hasAllW_nil h2
 obtain⟨xs,rfl,h3⟩:=hasW_list h1
 obtain⟨ns,rfl⟩:=items_int h3
 have hlen:ns.length≤n:=by
  unfold OpenLaw.pre at hc
  have h4:(WTm.not (.lt (.lit (.int (n:Int))) (.len (.arg 0)))).holds [] {args:=[.list (ns.map .int)]}=true:=by
   have h4:=(holds_andW hc).1
   rw[hn] at h4
   exact h4
  have h5:=condW_of h4 (w_not (w_lt w_lit (w_len_list (w_arg rfl))))
  rw[List.length_map] at h5
  refine Nat.le_of_not_lt fun q=>?_
  have q':(n:Int)<((ns.length:Nat):Int):=by omega
  first
   |(rw [decide_eq_true q'] at h5;exact absurd h5 (by decide))
   |(simp at h5;omega)
 cases L4 with
 |cons w1 w2=>
  cases w2
  cases w1 with
  |list ho DC=>exact⟨_,_,ns,rfl,rfl,ho,ints_of_wellAll ns _ DC,hlen⟩
theorem post_true(l:OpenLaw)(args:List WData):l.row.toRowW.claim.post args (.bool true) args=true:=
 postW_of (r:=l.row.toRowW) (X:=(true==true))
  (show WShape.has [] (.bool true) .bool=true by first | rfl | decide | simp[WShape.has,WShape.arms,WShape.armsAll])
  (show (WTm.eq .res (.lit (.bool true))).value [] {args:=args,res:=some (.bool true),after:=args}=some (.bool (true==true)) from w_eq_bool (w_res rfl) w_lit) rfl
theorem attach_call{l:OpenLaw}{n:Nat}{q:Program}{loose:List Str}{XP:(Str→Option Value)→Heap→Prop}{YP:World→Heap→Prop}{d:DefRec}
 (hn:l.most=some n)(IX:d.params.defaults=[])
 (call:∀(w:World) (s₀ s₁:Shared) (mg mb:Str→Option Value) (fa:Addr) (o:Obj) (pm cd doc:Value) (a:Addr) (vs:List Value) (ns:List Int),
  Ground q loose [] XP w s₀ mg mb s₁.heap→YP w s₁.heap→
  s₁.heap.get? fa=some o→o.data= .func (docDef d.name d.params d.body d.scope pm cd doc)→s₁.heap.CodeRec cd d.name→mg d.name=some (.ref fa)→
  s₁.heap.get? a=some {cls:= .type "list",data:= .seq vs.toArray}→IntsAre vs ns→ns.length≤n→s₁.gens= #[]→
  codeAny (model l.prog w) callerA (.call (.ref fa) ⟨[.ref a],[]⟩) (fun r s'=>r= .ok (.ret (.bool true))∧OldK s₁.heap s'.heap∧s'.os=s₁.os∧AllBare s'.gens) s₁):
 WalkO q loose XP YP l.row.toRowW d [] (fun f vs=>PySem.call f vs):=by
 intro w s₀ s₁ mg mb G Y fa o pm cd doc dV kV ho hd vK hD Gu hg args vals as DL OQ P_ L4 P6
 obtain rfl:dV= .none:=Dflts.none hD IX
 obtain rfl:kV= .none:=Dflts.noKw hD
 obtain⟨a,vs,ns,rfl,rfl,A9,hints,hlen⟩:=script_of hn DL L4
 refine enter_call (codeAny_mono (call w s₀ s₁ mg mb fa o pm cd doc a vs ns G Y ho (fd_plain hd) vK Gu A9 hints hlen hg) fun r s' hq=>?_)
 obtain⟨rfl,h2,h3,h4⟩:=hq
 exact⟨.inl ⟨.bool true, .bool true,[],rfl,fun _=>rfl, .bool true,post_true l _,fun _=>⟨List.Pairwise.nil,fun _ hm=>(nomatch hm)⟩⟩,h2,h3,h4⟩
section
variable{prog:Program}{w:World}{A:Around}{E:Value→Shared→Prop}{s:Shared}{K:Frag}
def ledger(h:Heap)(L d:Addr):List (Addr×Obj):=(List.range h.objs.size).filterMap fun a=>if a=L∨a=d then none else(h.get? a).map fun o=>(a,o)
end
end Att
namespace L2
open PySem PySem.Spec PyProof.Rows
theorem rh:∀{vs:List Value}{ns:List Int},IntsAre vs ns→Vals (ns.map V.int) vs
 |_,_, .nil=> .nil
 |_,_, .cons n t h=> .cons ⟨t,rfl⟩ (rh h)
def FP(H:Hp):Prop:=∀b,H b=none∨∃o xs,H b=some (.frz o (.lst xs))
theorem uw{P:Program}{w:World}{K:W.Frag}{mg mb:Str→Option Value}{CX:vN}{k:Nat}{fa a:Addr}{fd:FuncData}{x:Str}{sp:Sp}{s₁:Shared}{vs:List Value}{ns:List Int}
 (KX:K.In s₁.heap)(H8:s₁.heap.Ns mainGlobals mg)(hb:s₁.heap.Ns builtinsNs mb)(Om:∀x:Str,x≠"__name__"→mb x=bootBuiltins x)(Jb:s₁.heap.NoLimit)(hg:s₁.gens= #[])
 (ha:s₁.heap.get? a=some {cls:= .type "list",data:= .seq vs.toArray})(hi:IntsAre vs ns)(hl:ns.length≤sizeLine)(hr:Room k callerA)
 (F:∀base:Heap,K.In base→base.Ns mainGlobals mg→FnOk P w K mg base CX k fa fd [x] sp)(IU:∀(s:Shared) (u:Value),BindsTo s fd ⟨[u],[]⟩ [(x,u)])
 (Dd:∀H:Hp,FP H→SqL K H a (ns.map V.int)→sp [.ref a] H (fun v _=>v= .bl true) fun _ _ _=>False)
 (Li:∀H e s',CX [] H s₁ (fun _ _ _=>False) e s'→False):
 codeAny (model P w) callerA (.call (.ref fa) ⟨[.ref a],[]⟩) (fun r s'=>r= .ok (.ret (.bool true))∧OldK s₁.heap s'.heap∧s'.os=s₁.os∧AllBare s'.gens) s₁:=by
 have rv:=rh hi
 have Me:=hi.length
 have core:∀H:Hp,FP H→SqL K H a (ns.map V.int)→HOk P w H s₁.heap→(∀b,H b≠none→b=a)→(H a≠none→K.lookup a=none)→
  codeAny (model P w) callerA (.call (.ref fa) ⟨[.ref a],[]⟩) (fun r s'=>r= .ok (.ret (.bool true))∧OldK s₁.heap s'.heap∧s'.os=s₁.os∧AllBare s'.gens) s₁:=by
  intro H hO hS hok hA hK
  have xC:∀{b:Addr}{o:Obj},s₁.heap.get? b=some o→H b=none→(rS s₁.heap H).get? b=some o:=fun e n=>A5 e n
  have JD:∀{b:Addr}{o:Obj}{es:Array DictEntry}{ep:Nat},s₁.heap.get? b=some o→o.data= .dict es ep→H b=none:=fun {b o es ep} e d=>by
   cases q:H b with
   |none=>rfl
   |some u=>
    have e':b=a:=hA b (by rw[q];simp)
    subst e'
    rw[ha] at e;cases e
    have d':Data.seq vs.toArray _=Data.dict es ep:=d
    cases d'
  have KS:∀{b:Addr}{m:Str→Option Value},s₁.heap.Ns b m→(rS s₁.heap H).Ns b m:=fun {b m} ⟨o,es,ep,e,d,r⟩=>⟨o,es,ep,xC e (JD e d),d,r⟩
  have M8:K.In (rS s₁.heap H):=fun b o e=>xC (KX b o e) (by
   cases q:H b with
   |none=>rfl
   |some u=>
    have e':b=a:=hA b (by rw[q];simp)
    subst e'
    rw[hK (by rw[q];simp)] at e;cases e)
  have hM:Mod K mg (rS s₁.heap H):=⟨M8,KS H8,⟨mb,KS hb,Om⟩,let ⟨mc,h1,h2⟩:=Jb;⟨mc,KS h1,h2⟩⟩
  have e0:Env0 P w K mg (rS s₁.heap H) callerA [] s₁ H:=⟨rfl,hM,fun b o e=>D9 e,Nat.le_of_eq (y6 _ _),trivial,fun b hb=>absurd (show b∈([]:List Addr) from hb) (by simp),hok, .of_eq hg⟩
  refine codeAny_mono ((F _ M8 (KS H8)).run callerA [] s₁ H ⟨[.ref a],[]⟩ [.ref a] [.ref a] _ _ hr e0 (IU s₁ (.ref a)) (.cons rfl .nil) (Dd H hO hS)) fun r s' h=>?_
  cases r with
  |error e=>exact(Li H e s' h).elim
  |ok fl=>
   cases fl with
   |next=>exact False.elim h
   |brk=>exact False.elim h
   |cont=>exact False.elim h
   |ret u=>
    obtain⟨v,H',os,bare,un,LO,r',q⟩:=h
    have q':v= .bl true:=q
    subst q'
    obtain rfl:u=Value.bool true:=r'
    refine⟨rfl,OldK.of_keep fun b o e=>?_,os,bare⟩
    cases q:H b with
    |none=>exact un.keep b o e q (by intro z;exact absurd (show b∈([]:List Addr) from z) (by simp)) (by simp)
    |some u=>
     rcases hO b with z | ⟨ob,xs,z⟩
     ·rw[q] at z;cases z
     ·have z2:=un.frzs b ob _ z
      obtain⟨e1,_⟩:=hok b _ z
      obtain⟨e2,_⟩:=LO b _ z2
      rw[e] at e1;cases e1
      exact e2
 cases hk:K.lookup a with
 |some o=>
  have e:=KX a o hk
  rw[ha] at e
  cases e
  refine core (fun _=>none) (fun _=> .inl rfl) (.inr ⟨_,vs.toArray,_,hk,rfl,rfl,rfl,by rw[List.size_toArray,Me];exact hl,by simpa using rv⟩) (fun b u z=>by have z':(none:Option HO)=some u:=z;cases z') (fun b z=>absurd rfl z) fun z=>absurd rfl z
 |none=>
  refine core (fun b=>if b=a then some (.frz {cls:= .type "list",data:= .seq vs.toArray} (.lst (ns.map V.int))) else none) (fun b=>?_) (.inl (.inr ⟨{cls:= .type "list",data:= .seq vs.toArray},if_pos rfl⟩)) (fun b u z=>?_) (fun b z=>?_) fun _=>hk
  ·by_cases hb:b=a
   ·exact .inr ⟨_,_,if_pos hb⟩
   ·exact .inl (if_neg hb)
  ·by_cases hb:b=a
   ·have z':=(if_pos hb).symm.trans z
    cases z'
    subst hb
    exact⟨ha,by rw[List.length_map];exact hl,vs,_,rv,ha⟩
   ·have z':=(if_neg hb).symm.trans z
    cases z'
  ·by_cases hb:b=a
   ·exact hb
   ·exact absurd (if_neg hb) z
abbrev PM{K:W.Frag}{h:Heap}(_:K.In h):W.Frag:=K
theorem K4{l:PySem.W.OpenLaw}{n k:Nat}{q:Program}{loose:List Str}{XP:(Str→Option Value)→Heap→Prop}{YP:World→Heap→Prop}{d:DefRec}{K:Params→W.Frag}{CX:World→vN}{sp:World→Sp}{x:Str}
 (hn:l.most=some n)(KC:n≤sizeLine)(IX:d.params.defaults=[])(hr:Room k callerA)
 (hY:∀(w:World) (h:Heap),YP w h→(K w.params).In h)
 (F:∀(w:World) (mg:Str→Option Value) (fa:Addr) (h:Heap),(K w.params).In h→h.Ns mainGlobals mg→mg d.name=some (.ref fa)→
  ∃fd:FuncData,(∀(s:Shared) (u:Value),BindsTo s fd ⟨[u],[]⟩ [(x,u)])∧
   ∀base:Heap,(K w.params).In base→base.Ns mainGlobals mg→FnOk l.prog w (K w.params) mg base (CX w) k fa fd [x] (sp w))
 (Dd:∀(w:World) (H:Hp) (a:Addr) (ns:List Int),ns.length≤n→FP H→SqL (K w.params) H a (ns.map V.int)→sp w [.ref a] H (fun v _=>v= .bl true) fun _ _ _=>False)
 (Li:∀(w:World) (H:Hp) (s:Shared) (e:Value) (s':Shared),CX w [] H s (fun _ _ _=>False) e s'→False):
 PySem.W.WalkO q loose XP YP l.row.toRowW d [] (fun f vs=>PySem.call f vs):=by
 refine Att.attach_call hn IX fun w s₀ s₁ mg mb fa o pm cd doc a vs ns G Y ho hd vK Gu A9 hints hlen hg=>?_
 have KX:=hY w _ Y
 obtain⟨fd,hb,hF⟩:=F w mg fa _ KX G.T.g Gu
 exact uw KX G.T.g G.T.b G.T.builtins G.T.nolimit hg A9 hints (Nat.le_trans hlen KC) hr hF hb (fun H hO hS=>Dd w H a ns hlen hO hS) fun H e s'=>Li w H s₁ e s'
abbrev K5:vN:=fun _ _ _ _ _ _=>False
structure Fun (K:W.Frag) (x qual:Str) (st:Stmt) (f:Addr) (fd:FuncData):Prop where
 ex:∃(oc:Value) (od:Option Addr) (kV doc pm:Value) (an:Option Addr) (bC ct:Value) (Ej:Array (Option Value)),
  fd=PySem.W.fnOf x qual (d4 st) (bf st) (af st) .none kV doc pm an bC ct∧K.lookup f=some ⟨oc,od, .func fd,Ej⟩∧PySem.W.codeIn K bC qual=true
 kp:PySem.W.keepIn K (.ref f)=true
section
variable{P:Program}{w:World}{K:W.Frag}{mg:Str→Option Value}{base:Heap}
theorem Fun.ok{x qual:Str}{st:Stmt}{f:Addr}{fd:FuncData}{N ps:List Str}{k:Nat}{sp:Sp}(F:Fun K x qual st f fd)(S:FnScope N ps (af st))(len:∀vs H Q E,sp vs H Q E→vs.length=ps.length)
 (ng:∀(bC:Value) (A:Around) (outer:List Env) (s:Shared) (H:Hp) (vs:List V) (Q:VK) (E:XK),Room k (A.deeper (envOfC qual (af st) s.heap.objs.size f bC))→sp vs H Q E→
  ∃t,PSs (d_ K5 P w K mg base N qual (af st) f bC A outer s H E).nox (bf st) t∧t {nx:=fun _ H'=>Q .non H',rt:=Q} (start N vs) H):FnOk P w K mg base K5 (k+1) f fd ps sp:=by
 obtain⟨oc,od,kV,doc,pm,an,bC,ct,Ej,rfl,lk,vK⟩:=F.ex
 refine Fm lk vK S len fun A outer s H vs Q E hr Dd=>?_
 obtain⟨t,h,q⟩:=ng bC A outer s H vs Q E hr Dd
 exact⟨t,h.nox,q⟩
theorem Fun.binds{x qual:Str}{st:Stmt}{f:Addr}{fd:FuncData}{ps:List Str}(F:Fun K x qual st f fd)
 (h:∀(kV doc pm:Value) (an:Option Addr) (bC ct:Value) (us:List Value),us.length=ps.length→bindArgs (PySem.W.fnOf x qual (d4 st) (bf st) (af st) .none kV doc pm an bC ct) ⟨us,[]⟩=pure (ps.zip us)):Binds K fd ps []:=by
 obtain⟨oc,od,kV,doc,pm,an,bC,ct,Ej,rfl,lk,vK⟩:=F.ex
 exact .all (h kV doc pm an bC ct)
theorem AV{x qual:Str}{st:Stmt}{f:Addr}{oc:Value}{od an:Option Addr}{Ej:Array (Option Value)}{kV doc pm bC ct:Value}(l:K.lookup f=some ⟨oc,od, .func (PySem.W.fnOf x qual (d4 st) (bf st) (af st) .none kV doc pm an bC ct),Ej⟩)
 (c:PySem.W.codeIn K bC qual=true)(k:PySem.W.keepIn K (.ref f)=true):Fun K x qual st f (PySem.W.fnOf x qual (d4 st) (bf st) (af st) .none kV doc pm an bC ct):=⟨⟨oc,od,kV,doc,pm,an,bC,ct,Ej,rfl,l,c⟩,k⟩
end
section
variable{X:Cx}
theorem pv(i:Nat){x:Str}{pos:Pos}(hN:X.N[i]? =some x:=by rfl)(hv:Lc X.env.scope x:=by first | exact Or.inl rfl | exact Or.inr (Or.inl rfl) | exact Or.inr (Or.inr rfl))(hd:(x==("__debug__":Str))=false:=by decide)
 (vK:(x==("__classdict__":Str))=false:=by decide):PE X (.Name x pos) (oU i):=Hq hN hv hd vK
end
def Same(H H':Hp):Prop:=∀b o,H b=some o→H' b=some o
theorem Same.refl(H:Hp):Same H H:=fun _ _ h=>h
theorem Same.trans{H H1 H2:Hp}(a:Same H H1)(b:Same H1 H2):Same H H2:=fun c o h=>b c o (a c o h)
theorem Same.free{H H':Hp}(e:Same H H'){l:Addr}(h:H' l=Option.none):H l=Option.none:=by
 cases q:H l with
 |none=>rfl
 |some o=>
  rw[e l o q] at h
  cases h
theorem Same.seq{K:W.Frag}{H H':Hp}{a:Addr}{xs:List V}(e:Same H H')(h:SqL K H a xs):SqL K H' a xs:=by
 rcases h with(h | ⟨o,h⟩) | h
 ·exact .inl (.inl (e _ _ h))
 ·exact .inl (.inr ⟨o,e _ _ h⟩)
 ·exact .inr h
section
variable{κ:Type}[DecidableEq κ]
def ke(aw:List (κ×V))(k:κ):Option V:=(aw.find? fun kv=>decide (kv.1=k)).map (·.2)
def putK(aw:List (κ×V))(k:κ)(v:V):List (κ×V):=
 if (aw.any fun kv=>decide (kv.1=k))=true then aw.map (fun kv=>if kv.1=k then(kv.1,v) else kv) else aw++[(k,v)]
theorem kg{p:κ×V}{r:List (κ×V)}{k:κ}(e:p.1=k):ke (p::r) k=some p.2:=by simp[ke,List.find?_cons,e]
theorem kf{p:κ×V}{r:List (κ×V)}{k:κ}(e:¬p.1=k):ke (p::r) k=ke r k:=by simp[ke,List.find?_cons,e]
theorem oX(k:κ):∀aw:List (κ×V),(aw.any fun kv=>decide (kv.1=k))=(ke aw k).isSome
 |[]=>rfl
 |p::r=>by
  rw[List.any_cons]
  by_cases e:p.1=k
  ·simp only[kg e,decide_eq_true e,Bool.true_or,Option.isSome_some]
  ·rw[kf e,decide_eq_false e,Bool.false_or];exact oX k r
theorem eg(aw:List (κ×V))(k:κ)(v:V):(putK aw k v).length≤aw.length+1:=by
 unfold putK
 split
 ·rw[List.length_map];omega
 ·rw[List.length_append,List.length_cons,List.length_nil];omega
theorem RelO.isSome_eq{o:Option V}{u:Option Value}(r:RelO o u):o.isSome=u.isSome:=by
 cases o with
 |none=>cases u with
  |none=>rfl
  |some _=>exact(show False from r).elim
 |some _=>cases u with
  |none=>exact(show False from r).elim
  |some _=>rfl
theorem RelO.getD{o:Option V}{u:Option Value}{d:V}{d':Value}(r:RelO o u)(rd:RelV d d'):RelV (o.getD d) (u.getD d'):=by
 cases o with
 |none=>cases u with
  |none=>exact rd
  |some _=>exact(show False from r).elim
 |some _=>cases u with
  |none=>exact(show False from r).elim
  |some _=>exact r
theorem KV.val{aw:List (κ×V)}{vs:List (κ×Value)}(r:KV aw vs)(k:κ):RelO (ke aw k) (valueAt vs k):=by
 unfold KV at r
 induction r with
 |nil=>exact True.intro
 | @cons p q ps qs h t ih=>
   obtain⟨h1,h2⟩:=h
   by_cases e:p.1=k
   ·have e':q.1=k:=h1.symm.trans e
    have b:valueAt (q::qs) k=some q.2:=by simp[valueAt,List.find?_cons,e']
    rw[kg e,b];exact h2
   ·have e':¬q.1=k:=fun z=>e (h1.trans z)
    have b:valueAt (q::qs) k=valueAt qs k:=by simp[valueAt,List.find?_cons,e']
    rw[kf e,b];exact ih
theorem KV.any{aw:List (κ×V)}{vs:List (κ×Value)}(r:KV aw vs)(k:κ):(aw.any fun kv=>decide (kv.1=k))=vs.any fun kv=>decide (kv.1=k):=by
 unfold KV at r
 induction r with
 |nil=>rfl
 |cons h t ih=>rw[List.any_cons,List.any_cons,ih,h.1]
theorem KV.repl{aw:List (κ×V)}{vs:List (κ×Value)}(r:KV aw vs)(k:κ){y:V}{u:Value}(ry:RelV y u):
 KV (aw.map fun kv=>if kv.1=k then(kv.1,y) else kv) (vs.map fun kv=>if kv.1=k then(kv.1,u) else kv):=by
 unfold KV at r⊢
 induction r with
 |nil=>exact .nil
 | @cons p q ps qs h t ih=>
   rw[List.map_cons,List.map_cons]
   refine .cons ?_ ih
   obtain⟨h1,h2⟩:=h
   by_cases e:p.1=k
   ·rw[if_pos e,if_pos (h1.symm.trans e)];exact⟨h1,ry⟩
   ·rw[if_neg e,if_neg (fun z=>e (h1.trans z))];exact⟨h1,h2⟩
theorem KV.put{aw:List (κ×V)}{vs:List (κ×Value)}(r:KV aw vs)(k:κ){y:V}{u:Value}(ry:RelV y u):KV (putK aw k y) (stored vs k u):=by
 unfold putK stored
 rw[r.any k]
 by_cases e:(vs.any fun kv=>decide (kv.1=k))=true
 ·rw[if_pos e,if_pos e];exact r.repl k ry
 ·rw[if_neg e,if_neg e];exact Paired.snoc r ⟨rfl,ry⟩
theorem KV.length{aw:List (κ×V)}{vs:List (κ×Value)}(r:KV aw vs):aw.length=vs.length:=Paired.length r
end
theorem ql{P:Program}{w:World}{k:Key}{u:Value}(r:RelV (kV k) u):(bj P w).is k u=true:=by
 cases k with
 |inl i=>obtain⟨t,e⟩:=(show∃t,u=Value.int i t from r);subst e;exact uB P w i t
 |inr x=>obtain⟨t,e⟩:=(show∃t,u=Value.str x t from r);subst e;exact uC P w x t
theorem qj{P:Program}{w:World}:∀{ks:List Key}{us:List Value},Vals (ks.map kV) us→ItemsAre (bj P w) ks us
 |[],_,r=>by rw[List.map_nil] at r;cases r;exact .nil
 |k::ks,_,r=>by
  rw[List.map_cons] at r
  cases r with
  |cons h t=>exact .cons (ql h) (qj t)
abbrev KT(H:Hp):List (List Key×V)→List (List Key×Addr×Value)→Prop:=Paired fun p q=>p.1=q.1∧H q.2.1=some (.tup (p.1.map kV))∧RelV p.2 q.2.2
theorem KT.val{H:Hp}{aw:List (List Key×V)}{xs:List (List Key×Addr×Value)}(r:KT H aw xs)(k:List Key):RelO (ke aw k) ((atKey xs k).map (·.2)):=by
 induction r with
 |nil=>exact True.intro
 | @cons p q ps qs h t ih=>
   obtain⟨h1,_,h2⟩:=h
   by_cases e:p.1=k
   ·have e':q.1=k:=h1.symm.trans e
    have b:atKey (q::qs) k=some q.2:=by simp[atKey,List.find?_cons,e']
    rw[kg e,b];exact h2
   ·have e':¬q.1=k:=fun z=>e (h1.trans z)
    have b:atKey (q::qs) k=atKey qs k:=by simp[atKey,List.find?_cons,e']
    rw[kf e,b];exact ih
theorem KT.repl{H:Hp}{aw:List (List Key×V)}{xs:List (List Key×Addr×Value)}(r:KT H aw xs)(k:List Key){y:V}{u:Value}(ry:RelV y u):
 KT H (aw.map fun kv=>if kv.1=k then(kv.1,y) else kv) (xs.map (putAt k u)):=by
 induction r with
 |nil=>exact .nil
 | @cons p q ps qs h t ih=>
   rw[List.map_cons,List.map_cons]
   refine .cons ?_ ih
   obtain⟨h1,h2,h3⟩:=h
   unfold putAt
   by_cases e:p.1=k
   ·rw[if_pos e,if_pos (h1.symm.trans e)];exact⟨h1,h2,ry⟩
   ·rw[if_neg e,if_neg (fun z=>e (h1.trans z))];exact⟨h1,h2,h3⟩
theorem KT.put{H:Hp}{aw:List (List Key×V)}{xs:List (List Key×Addr×Value)}(r:KT H aw xs)(k:List Key){b:Addr}{y:V}{u:Value}(hb:H b=some (.tup (k.map kV)))(ry:RelV y u):
 KT H (putK aw k y) (storedH xs k b u):=by
 have e:(aw.any fun kv=>decide (kv.1=k))=(atKey xs k).isSome:=by
  rw[oX,(r.val k).isSome_eq,Option.isSome_map]
 unfold putK storedH
 rw[e]
 by_cases q:(atKey xs k).isSome=true
 ·rw[if_pos q,if_pos q];exact r.repl k ry
 ·rw[if_neg q,if_neg q];exact Paired.snoc r ⟨rfl,hb,ry⟩
theorem KT.keeps{H H':Hp}{aw:List (List Key×V)}{xs:List (List Key×Addr×Value)}(r:KT H aw xs)(ht:∀b ys,H b=some (.tup ys)→H' b=some (.tup ys)):KT H' aw xs:=
 Paired.mapP r fun _ _ z=>⟨z.1,ht _ _ z.2.1,z.2.2⟩
section
variable{P:Program}{w:World}{H:Hp}{h:Heap}{a:Addr}
theorem FJ{u:HO}(ok:HOk P w H h)(e:Rd H a u):ObjOk P w H h a u:=e.ok ok
theorem p7{aw:List (Key×V)}(ok:HOk P w H h)(e:Rd H a (.dK aw)):aw.length≤sizeLine∧(a==sysModules)=false∧∃vs,KV aw vs∧h.DictOf (bj P w) a vs:=
 show ObjOk P w H h a (.dK aw) from FJ ok e
theorem Ff{aw:List (Key×V)}(ok:HOk P w H h)(e:H a=some (.dK aw)):aw.length≤sizeLine∧(a==sysModules)=false∧∃vs,KV aw vs∧h.DictOf (bj P w) a vs:=p7 ok (.inl e)
theorem kE{ks:List Key}(ok:HOk P w H h)(e:H a=some (.tup (ks.map kV))):(tupleKind (bj P w)).is h ks a:=by
 obtain⟨_,aG,r,o,h1,h2,n,h3⟩:=(show ObjOk P w H h a (.tup (ks.map kV)) from ok a _ e)
 exact⟨o,aG.toArray,n,h1,h2,h3,by simpa using qj r⟩
theorem m7{aw:List (List Key×V)}(ok:HOk P w H h)(e:Rd H a (.dT aw)):aw.length≤sizeLine∧(a==sysModules)=false∧
 ∃xs,KT H aw xs∧h.DictOfH (tupleKind (bj P w)) a xs:=by
 obtain⟨z,y,xs,r,o,es,ep,h1,h2,h3,h4,h5⟩:=(show ObjOk P w H h a (.dT aw) from FJ ok e)
 refine⟨z,y,xs,r,o,es,ep,h1,h2,h3,h4,fun x hx=>?_,h5⟩
 have all:∀{l:List (List Key×V)}{m:List (List Key×Addr×Value)},KT H l m→∀x∈m,(tupleKind (bj P w)).is h x.1 x.2.1:=by
  intro l m q
  induction q with
  |nil=>intro x hx;exact nomatch hx
  | @cons p q ps qs hq t ih=>
    intro x hx
    rcases List.mem_cons.mp hx with e | hx
    ·subst e
     exact kE ok (by rw[←hq.1];exact hq.2.1)
    ·exact ih x hx
 exact all r x hx
theorem AK{aw:List (List Key×V)}(ok:HOk P w H h)(e:H a=some (.dT aw)):aw.length≤sizeLine∧(a==sysModules)=false∧
 ∃xs,KT H aw xs∧h.DictOfH (tupleKind (bj P w)) a xs:=m7 ok (.inl e)
end
def o9(H:Hp)(a:Addr)(y:V)(r:Option V):Prop:=
 (∃aw k,Rd H a (.dK aw)∧y=kV k∧r=ke aw k)∨∃aw k b,Rd H a (.dT aw)∧y= .ref b∧H b=some (.tup (k.map kV))∧r=ke aw k
def DPut(H:Hp)(a:Addr)(y v:V)(H':Hp):Prop:=
 (∃aw k,H a=some (.dK aw)∧y=kV k∧aw.length<sizeLine∧H'=upd H a (.dK (putK aw k v)))∨
 ∃aw k b,H a=some (.dT aw)∧y= .ref b∧H b=some (.tup (k.map kV))∧aw.length<sizeLine∧H'=upd H a (.dT (putK aw k v))
theorem DPut.k{H:Hp}{a:Addr}{aw:List (Key×V)}{k:Key}{v:V}(e:H a=some (.dK aw))(hl:aw.length<sizeLine):DPut H a (kV k) v (upd H a (.dK (putK aw k v))):= .inl ⟨aw,k,e,rfl,hl,rfl⟩
theorem DPut.t{H:Hp}{a b:Addr}{aw:List (List Key×V)}{k:List Key}{v:V}(e:H a=some (.dT aw))(eb:H b=some (.tup (k.map kV)))(hl:aw.length<sizeLine):
 DPut H a (.ref b) v (upd H a (.dT (putK aw k v))):= .inr ⟨aw,k,b,e,rfl,eb,hl,rfl⟩
section
variable{X:Cx}{pins:List (Addr×Obj)}{σ:St}{H:Hp}{s:Shared}{a:Addr}{y v:V}{u r:Value}{o:Option V}{A:Around}{E:Value→Shared→Prop}
theorem Inv.big(I:Inv X pins σ H s):sysModules<s.heap.objs.size:=by
 have h:mainGlobals<s.heap.objs.size:=(I.mod.glob.keeps I.bk).lt
 exact Nat.lt_trans (by decide) h
theorem yU{Q:Value→Shared→Prop}(hu:A.units+1<cLine)(I:Inv X pins σ H s)(g:o9 H a y (some v))(ry:RelV y u)(h:∀w' s',Inv X pins σ H s'→RelV v w'→Q w' s'):
 wpAny (model X.prog X.w) A (getItem (.ref a) u) Q E s:=by
 rcases g with⟨aw,k,e,ey,l⟩ | ⟨aw,k,b,e,ey,eb,l⟩
 ·subst ey
  obtain⟨z,hd,vs,rel,dd⟩:=p7 I.hok e
  obtain⟨w',hw,Ae⟩:=RelO.some_of (v:=v) (o:=valueAt vs k) (by rw[l];exact rel.val k)
  exact wpAny_getItem_of (ql ry) dd.mapOf hw (h w' _ (I.tok _) Ae)
 ·subst ey
  cases (show u=Value.ref b from ry)
  obtain⟨z,hd,xs,rel,dd⟩:=m7 I.hok e
  obtain⟨w',hw,Ae⟩:=RelO.some_of (v:=v) (o:=(atKey xs k).map (·.2)) (by rw[l];exact rel.val k)
  obtain⟨p,hp,LS⟩:=Option.map_eq_some_iff.mp hw
  refine wpAny_getItem_heap (tupleKind_room_in1 hu) (kE I.hok eb) dd hp ?_
  rw[LS]
  exact h w' _ (I.tok _) Ae
theorem Lf{Q:Value→Shared→Prop}(hu:A.units+1<cLine)(I:Inv X pins σ H s)(g:o9 H a y o)(ry:RelV y u)(h:∀s',Inv X pins σ H s'→Q (.bool o.isSome) s'):
 wpAny (model X.prog X.w) A (compareOp .In u (.ref a)) Q E s:=by
 rcases g with⟨aw,k,e,ey,l⟩ | ⟨aw,k,b,e,ey,eb,l⟩
 ·subst ey
  obtain⟨z,hd,vs,rel,dd⟩:=p7 I.hok e
  refine wpAny_in_of (ql ry) hd dd.mapOf ?_
  rw[←(rel.val k).isSome_eq,←l]
  exact h _ (I.tok _)
 ·subst ey
  cases (show u=Value.ref b from ry)
  obtain⟨z,hd,xs,rel,dd⟩:=m7 I.hok e
  refine wpAny_in_heap (tupleKind_room_in1 hu) (kE I.hok eb) hd dd ?_
  have q:=(rel.val k).isSome_eq
  rw[Option.isSome_map] at q
  rw[←q,←l]
  exact h _ (I.tok _)
theorem Dp{Q:Value→Shared→Prop}(hu:A.units+1<cLine)(I:Inv X pins σ H s)(g:o9 H a y o)(ry:RelV y u)(h:∀s',Inv X pins σ H s'→Q (.bool (!o.isSome)) s'):
 wpAny (model X.prog X.w) A (compareOp .NotIn u (.ref a)) Q E s:=by
 rcases g with⟨aw,k,e,ey,l⟩ | ⟨aw,k,b,e,ey,eb,l⟩
 ·subst ey
  obtain⟨z,hd,vs,rel,dd⟩:=p7 I.hok e
  refine wpAny_notIn_of (ql ry) hd dd.mapOf ?_
  rw[←(rel.val k).isSome_eq,←l]
  exact h _ (I.tok _)
 ·subst ey
  cases (show u=Value.ref b from ry)
  obtain⟨z,hd,xs,rel,dd⟩:=m7 I.hok e
  refine wpAny_notIn_heap (tupleKind_room_in1 hu) (kE I.hok eb) hd dd ?_
  have q:=(rel.val k).isSome_eq
  rw[Option.isSome_map] at q
  rw[←q,←l]
  exact h _ (I.tok _)
theorem jj{h':Heap}{t':Nat}{ob:HO}(I:Inv X pins σ H s)(mu:Im (H a))(hs:Heap.SameBut a s.heap h')(he:∃q,h'.get? a=some q)(new:ObjOk X.prog X.w (upd H a ob) h' a ob):
 Inv X pins σ (upd H a ob) {s with heap:=h',toks:=t'}:=
 I.write (x:=a) (e:=a) mu (.inl rfl) (fun b q hb z=>(hs.2 b hb).trans z) he new
theorem AJ{P:Program}{w:World}{H':Hp}{h':Heap}{aw:List (Key×V)}{vs:List (Key×Value)}(z:aw.length≤sizeLine)(hd:(a==sysModules)=false)(rel:KV aw vs)(dd:h'.DictOf (bj P w) a vs):
 ObjOk P w H' h' a (.dK aw):=⟨z,hd,vs,rel,dd⟩
theorem yV{H':Hp}{Q:Unit→Shared→Prop}(hu:A.units+1<cLine)(I:Inv X pins σ H s)(g:DPut H a y v H')(ry:RelV y u)(rv:RelV v r)(h:∀s',Inv X pins σ H' s'→Q () s'):
 wpAny (model X.prog X.w) A (setItem (.ref a) u r) Q E s:=by
 rcases g with⟨aw,k,e,ey,l,eH⟩ | ⟨aw,k,b,e,ey,eb,l,eH⟩
 ·subst ey eH
  obtain⟨z,hd,vs,rel,dd⟩:=Ff I.hok e
  have hz:vs.length≤sizeLine:=by rw[←rel.length];exact z
  have hl:(putK aw k v).length≤sizeLine:=by have:=eg aw k v;omega
  refine wpAny_setItem_pairs (hsz:=hz) (ql ry) dd fun h' AF hs=>h _ ?_
  have he:∃q,h'.get? a=some q:=let ⟨q,_,_,hq,_⟩:=AF;⟨q,hq⟩
  exact jj I (by rw[e];exact True.intro) hs he (AJ hl hd (rel.put k rv) AF)
 ·subst ey eH
  cases (show u=Value.ref b from ry)
  obtain⟨z,hd,xs,rel,dd⟩:=AK I.hok e
  have hz:xs.length≤sizeLine:=by rw[←Paired.length rel];exact z
  have hl:(putK aw k v).length≤sizeLine:=by have:=eg aw k v;omega
  refine wpAny_setItem_heap (hsz:=hz) (tupleKind_room_in1 hu) (kE I.hok eb) dd fun h' AF hs=>h _ ?_
  obtain⟨q,es,ep,hq,h2,h3,h4,_,h5⟩:=AF
  refine jj I (by rw[e];exact True.intro) hs ⟨q,hq⟩ ⟨hl,hd,_,(rel.put k eb rv).keeps fun c ys ec=>?_,q,es,ep,hq,h2,h3,h4,h5⟩
  rw[av (Bv ec e (fun z=>nomatch z))]
  exact ec
end
section
variable{X:Cx}{pins:List (Addr×Obj)}{σ:St}{H:Hp}{s:Shared}{a:Addr}{aw:List (Key×V)}{k:Key}{u:Value}{A:Around}{E:Value→Shared→Prop}
end
def FO(i:Expr):Prop:=∀ov iv,subscripted i false ov iv=operate [ov,iv] (getItem ov iv)
theorem EZ{prog:Program}{w:World}{A:Around}{E:Value→Shared→Prop}{s:Shared}{env:Env}{value slice:Expr}{pos:Pos}{T id:String}{Q:Value→Shared→Prop}
 (hl:typeLookup (.type T) "__getitem__"=pure (some (.builtin id)))(hs:FO slice)
 (h:wpAny (model prog w) A (eval value env) (fun o s₁=>wpAny (model prog w) A (eval slice env) (fun i s₂=>s₂.TypeIs o T∧wpAny (model prog w) A (getItem o i) Q E s₂) E s₁) E s):
 wpAny (model prog w) A (eval (.Subscript value slice pos) env) Q E s:=by
 refine Subscript_ (wpAny_mono h (fun o s₁ h₁=>wpAny_mono h₁ (fun i s₂ h₂=>?_) fun _ _ x=>x) fun _ _ x=>x)
 obtain⟨hT,h₂⟩:=h₂
 unfold subscriptTail
 refine wpAny_bind ?_
 rw[getitemInPython_of_ne hT.not_modules]
 refine wpAny_bind (wpAny_specialOf hT hl ?_)
 have fin:wpAny (model prog w) A (subscripted slice false o i) (fun r s₃=>wpAny (model prog w) A (letTemporaryGo value o r>>=fun _=>pure r) Q E s₃) E s₂:=by
  rw[hs o i]
  exact wpAny_operating (wpAny_mono h₂ (fun r s₃ h₃=>wpAny_bind (wpAny_letTemporaryGo (wpAny_pure h₃))) fun _ _ x=>x)
 first
  |exact wpAny_pure (wpAny_bind fin)
  |exact wpAny_bind (wpAny_pure (wpAny_bind fin))
  |exact wpAny_bind fin
theorem t_{X:Cx}{pins:List (Addr×Obj)}{σ:St}{H:Hp}{s:Shared}{a:Addr}{y:V}{o:Option V}(I:Inv X pins σ H s)(g:o9 H a y o):s.TypeIs (.ref a) "dict":=by
 rcases g with⟨aw,k,e,_,_⟩ | ⟨aw,k,b,e,_,_,_⟩
 ·obtain⟨_,_,vs,_,dd⟩:=p7 I.hok e
  exact dd.typeIs
 ·obtain⟨_,_,xs,_,dd⟩:=m7 I.hok e
  exact dd.typeIs
def Ke(td ty:TE):TE:=fun σ H Q=>td σ H fun x H1=>ty σ H1 fun y H2=>∃a v,x= .ref a∧o9 H2 a y (some v)∧Q v H2
def My(ty td:TE):TE:=fun σ H Q=>ty σ H fun y H1=>td σ H1 fun x H2=>∃a o,x= .ref a∧o9 H2 a y o∧Q (.bl o.isSome) H2
def J9(td ty tv:TE):TS:=fun D σ H=>tv σ H fun v H1=>td σ H1 fun x H2=>ty σ H2 fun y H3=>∃a H4,x= .ref a∧DPut H3 a y v H4∧D.nx σ H4
section
variable{X:Cx}{o i e value:Expr}{pos pos' MH:Pos}{td ty tv:TE}
theorem Eu(hu:X.A.units+1<cLine)(ho:PE X o td)(hi:PE X i ty)(hs:FO i):PE X (.Subscript o i pos) (Ke td ty):=by
 intro pins s σ H Q I h
 refine EZ PySem.F.slot_dict_getitem.lookup hs (bS (ho pins s σ H _ I h) fun u s1 ⟨x,H1,I1,rx,q1⟩=>bS (hi pins s1 σ H1 _ I1 q1) fun iv s2 ⟨y,H2,I2,ry,a,v,ex,g,q2⟩=>?_)
 subst ex
 obtain rfl:u=Value.ref a:=rx
 exact⟨t_ I2 g,yU hu I2 g ry fun w' s3 I3 Ae=>⟨v,H2,I3,Ae,q2⟩⟩
theorem G_(hu:X.A.units+1<cLine)(hi:PE X i ty)(ho:PE X o td):PC X .In i o (My ty td):=by
 intro pins s σ H Q I h
 refine bS (hi pins s σ H _ I h) fun iv s1 ⟨y,H1,I1,ry,q1⟩=>bS (ho pins s1 σ H1 _ I1 q1) fun u s2 ⟨x,H2,I2,rx,a,ov,ex,g,q2⟩=>?_
 subst ex
 obtain rfl:u=Value.ref a:=rx
 exact Lf hu I2 g ry fun s3 I3=>⟨.bl ov.isSome,H2,I3,rfl,q2⟩
theorem EC(hu:X.A.units+1<cLine)(ho:PE X o td)(hi:PE X i ty)(hv:PE X value tv)(hs:swapsWith value (some (.Subscript o i pos')) pos.line X.env=pure false):
 PS X (.Assign [.Subscript o i pos'] value pos) (J9 td ty tv):=by
 intro pins s σ H D I h
 refine wpAny_Assign_Subscript (bS (hv pins s σ H _ I h) fun r s1 ⟨v,H1,I1,rv,q1⟩=>bS (ho pins s1 σ H1 _ I1 q1) fun u s2 ⟨x,H2,I2,rx,q2⟩=>bS (hi pins s2 σ H2 _ I2 q2) fun iv s3 ⟨y,H3,I3,ry,a,H4,ex,g,q3⟩=>?_) hs
 subst ex
 obtain rfl:u=Value.ref a:=rx
 exact yV hu I3 g ry rv fun s4 I4=>⟨σ,H4,I4,q3⟩
end
theorem ua{P:Program}{w:World}{H:Hp}(h:Heap)(hb:sysModules<h.objs.size):ObjOk P w H (h.push {cls:= .type "dict",data:= .dict #[]}) h.objs.size (.dT []):=
 ⟨Nat.zero_le _,beq_eq_false_iff_ne.mpr (Ne.symm (Nat.ne_of_lt hb)),[], .nil,_,#[],0,Heap.get?_push_size _ rfl,⟨rfl,rfl,rfl⟩,rfl,rfl,List.nodup_nil⟩
def HN:TE:=fun _ H Q=>∀p,H p=none→Q (.ref p) (upd H p (.dT []))
section
variable{X:Cx}{pos:Pos}
theorem B4:PE X (.Dict [] [] pos) HN:=fun pins s σ H Q I h=>
 wpAny_Dict_empty ⟨.ref s.heap.objs.size,_,I.laid (a:=s.heap.objs.size) (o:= .dT []) (t':=s.toks) (fun _ _ q=>Heap.get?_push_of_some _ q) (Nat.le_refl _) (ua s.heap I.big),rfl,h _ (I.hok.fresh (Nat.le_refl _))⟩
end
def CS:List (TE×TE)→St→Hp→(List (V×V)→Hp→Prop)→Prop
 |[],_,H,Q=>Q [] H
 |(tk,tv)::r,σ,H,Q=>tk σ H fun x H1=>tv σ H1 fun y H2=>CS r σ H2 fun ps H3=>Q ((x,y)::ps) H3
abbrev VV:List (V×V)→List (Value×Value)→Prop:=Paired fun p q=>RelV p.1 q.1∧RelV p.2 q.2
def K9(X:Cx)(pos:Pos)(keys:List (Option Expr))(values:List Expr)(K0:List (TE×TE)):Prop:=
 ∀(pins:List (Addr×Obj)) (s:Shared) (σ:St) (H:Hp) (Q:List (V×V)→Hp→Prop),Inv X pins σ H s→CS K0 σ H Q→
  wpAny (model X.prog X.w) X.A (evalPairs (pairTrees keys values X.env pos)) (fun vs s'=>∃ps H',Inv X pins σ H' s'∧VV ps vs∧Q ps H') X.xe s
theorem EA{X:Cx}{pos:Pos}:K9 X pos [] [] []:=fun pins s σ H Q I h=>pairTrees_nil_walk ⟨[],H,I, .nil,h⟩
theorem B8{X:Cx}{pos:Pos}{k v:Expr}{ks:List (Option Expr)}{vs:List Expr}{tk tv:TE}{K0:List (TE×TE)}(hk:PE X k tk)(hv:PE X v tv)(hr:K9 X pos ks vs K0):
 K9 X pos (some k::ks) (v::vs) ((tk,tv)::K0):=fun pins s σ H Q I h=>
 pairTrees_cons_walk (bS (hk pins s σ H _ I h) fun u s1 ⟨x,H1,I1,rx,q1⟩=>bS (hv pins s1 σ H1 _ I1 q1) fun w2 s2 ⟨y,H2,I2,ry,q2⟩=>
  bS (hr pins s2 σ H2 _ I2 q2) fun ws s3 ⟨ps,H3,I3,rel,q3⟩=>⟨(x,y)::ps,H3,I3, .cons ⟨rx,ry⟩ rel,q3⟩)
structure M1 (X:Cx) (o:Expr) (m:Str) (apos:Pos) (e:Expr) (bp:Pos):Prop where
 base:attributeBase o m X.env (eval o X.env)=eval o X.env
 few:((backTo bp (starEach [e] X.env)).all (fun x=>!x.1)&&(backToKw bp (keywordEach [] X.env)).all (fun x=>x.1.isSome)
  &&decide (([e]:List Expr).length+([]:List Keyword).length+(if ([]:List Keyword).isEmpty then 0 else 1)<30))=true
 line:(apos.endLine==bp.line)=true
 trees:backTo bp (starEach [e] X.env)=[(false,eval e X.env)]
structure M2 (X:Cx) (o:Expr) (m:Str) (apos:Pos) (e f:Expr) (bp:Pos):Prop where
 base:attributeBase o m X.env (eval o X.env)=eval o X.env
 few:((backTo bp (starEach [e,f] X.env)).all (fun x=>!x.1)&&(backToKw bp (keywordEach [] X.env)).all (fun x=>x.1.isSome)
  &&decide (([e,f]:List Expr).length+([]:List Keyword).length+(if ([]:List Keyword).isEmpty then 0 else 1)<30))=true
 line:(apos.endLine==bp.line)=true
 trees:backTo bp (starEach [e,f] X.env)=[(false,eval e X.env),(false,eval f X.env)]
def MM(H:Hp)(a:Addr):Prop:=(∃aw,Rd H a (.dK aw))∨∃aw,Rd H a (.dT aw)
theorem GN{X:Cx}{pins:List (Addr×Obj)}{σ:St}{H:Hp}{s:Shared}{a:Addr}(I:Inv X pins σ H s)(d:MM H a):
 s.TypeIs (.ref a) "dict"∧(∀b,Value.ref a= .ref b→∃ob,s.heap.get? b=some ob∧ob.dict=none)∧(a==sysModules)=false:=by
 rcases d with⟨aw,e⟩ | ⟨aw,e⟩
 ·obtain⟨_,hd,vs,_,dd⟩:=p7 I.hok e
  refine⟨dd.typeIs,fun b q=>?_,hd⟩
  cases q
  obtain⟨ob,_,_,h1,h2,_⟩:=dd
  exact⟨ob,h1,h2.2.1⟩
 ·obtain⟨_,hd,xs,_,dd⟩:=m7 I.hok e
  refine⟨dd.typeIs,fun b q=>?_,hd⟩
  cases q
  obtain⟨ob,_,_,h1,h2,_⟩:=dd
  exact⟨ob,h1,h2.2.1⟩
section
variable{X:Cx}{pins:List (Addr×Obj)}{σ:St}{H:Hp}{s:Shared}{a:Addr}{y d:V}{u r:Value}{o:Option V}{A:Around}{E:Value→Shared→Prop}
end
section
variable{X:Cx}{o e f:Expr}{apos bp:Pos}{td ty tx:TE}
end
section
variable{X:Cx}{pins:List (Addr×Obj)}{σ:St}{H:Hp}{s:Shared}{a:Addr}{aw:List (Key×V)}{A:Around}{E:Value→Shared→Prop}
end
section
variable{X:Cx}{pins:List (Addr×Obj)}{σ:St}{H:Hp}{s:Shared}{a:Addr}{y:V}{u:Value}{A:Around}{E:Value→Shared→Prop}
end
end L2
namespace L3
open PySem PySem.Spec L2
open PyProof.Rows hiding St
inductive Rs (α:Type) where
 |ok (a:α) | ex (n:Nat)
def M(α:Type):=Option (Rs α)
def M.ret{α:Type}(a:α):M α:=some (.ok a)
def M.bind{α β:Type}(m:M α)(k:α→M β):M β:=match m with
 |none=>none
 |some (.ex n)=>some (.ex n)
 |some (.ok a)=>k a
def M.stuck{α:Type}:M α:=none
def M.raise{α:Type}(n:Nat):M α:=some (.ex n)
instance:Monad M where
 pure:=M.ret
 bind:=M.bind
@[simp] theorem aq{α β:Type}(a:α)(k:α→M β):(M.ret a>>=k)=k a:=rfl
@[simp] theorem FT{α β:Type}(a:α)(k:α→M β):((pure a:M α)>>=k)=k a:=rfl
@[simp] theorem FU{α β:Type}(n:Nat)(k:α→M β):(M.raise n>>=k)=M.raise n:=rfl
@[simp] theorem FV{α β:Type}(k:α→M β):((M.stuck:M α)>>=k)=M.stuck:=rfl
theorem M.cs{α:Type}(m:M α):m=M.stuck∨(∃n,m=M.raise n)∨∃a,m=M.ret a:=by
 match m with
 |none=>exact .inl rfl
 |some (.ex n)=>exact .inr (.inl ⟨n,rfl⟩)
 |some (.ok a)=>exact .inr (.inr ⟨a,rfl⟩)
theorem fm{α:Type}{a b:α}(h:M.ret a=M.ret b):a=b:=by
 have h:some (Rs.ok a)=some (Rs.ok b):=h
 cases h
 rfl
theorem il{α:Type}{a:α}(h:M.stuck=M.ret a):False:=by
 have h:none=some (Rs.ok a):=h
 cases h
theorem Co{α:Type}{n:Nat}{a:α}(h:M.raise n=M.ret a):False:=by
 have h:some (Rs.ex n)=some (Rs.ok a):=h
 cases h
theorem fY{α β:Type}{m:M α}{k:α→M β}{r:β}(h:(m>>=k)=M.ret r):∃a,m=M.ret a∧k a=M.ret r:=by
 rcases m.cs with e | ⟨n,e⟩ | ⟨a,e⟩
 ·subst e;exact(il h).elim
 ·subst e;exact(Co h).elim
 ·subst e;exact⟨a,rfl,h⟩
def Ij(h:Heap)(ea D:Addr):Prop:=∃ox,h.get? ea=some ox∧ox.cls= .ref D
def NU(ea D:Addr):HO:= .ext fun h=>Ij h ea D
inductive D where
 |non | bl (b:Bool) | int (i:Int) | str (x:Str) | raw (v:V) | exc (C:Addr) | scr (l:List Int) | tup (l:List D) | lst (l:List D)
 |dct (ks:List (List Key)) (l:List D) | dci (ks:List Key) (l:List D)
instance:Inhabited D:=⟨.non⟩
def lim:Nat:=4096
theorem dB:lim<sizeLine:=by rw[sizeLine_eq];decide
mutual
def Den(K:W.Frag)(F:Hp):D→V→Prop
 | .non,v=>v= .non
 | .bl b,v=>v= .bl b
 | .int i,v=>v= .int i
 | .str x,v=>v= .str x∧x.length≤lim
 | .raw u,v=>v=u
 | .exc C,v=>∃ea,v= .ref ea∧F ea=some (NU ea C)
 | .scr ns,v=>∃a,v= .ref a∧SqL K F a (ns.map V.int)∧ns.length≤lim
 | .tup ds,v=>∃a vs,v= .ref a∧F a=some (.tup vs)∧DenL K F ds vs∧ds.length≤lim
 | .lst ds,v=>∃a vs,v= .ref a∧F a=some (.lst vs)∧DenL K F ds vs∧ds.length≤lim
 | .dct ks ds,v=>∃a ob vs,v= .ref a∧F a=some (.frz ob (.dT (ks.zip vs)))∧DenL K F ds vs∧ks.length=ds.length∧ds.length≤lim
 | .dci ks ds,v=>∃a ob vs,v= .ref a∧F a=some (.frz ob (.dK (ks.zip vs)))∧DenL K F ds vs∧ks.length=ds.length∧ds.length≤lim
def DenL(K:W.Frag)(F:Hp):List D→List V→Prop
 |[],vs=>vs=[]
 |d::ds,vs=>∃v r,vs=v::r∧Den K F d v∧DenL K F ds r
end
theorem Same.rd{H H':Hp}{a:Addr}{u:HO}(e:Same H H')(h:Rd H a u):Rd H' a u:=by
 rcases h with h | ⟨o,h⟩
 ·exact .inl (e _ _ h)
 ·exact .inr ⟨o,e _ _ h⟩
theorem Same.tup{K:W.Frag}{H H':Hp}{a:Addr}{xs:List V}(e:Same H H')(h:SqT K H a xs):SqT K H' a xs:=by
 rcases h with h | h
 ·exact .inl (Same.rd e h)
 ·exact .inr h
section
variable{K:W.Frag}{F F':Hp}
mutual
theorem Den.mono(e:Same F F'):∀{d:D}{v:V},Den K F d v→Den K F' d v
 | .non,_,h=>h
 | .bl _,_,h=>h
 | .int _,_,h=>h
 | .str _,_,h=>h
 | .raw _,_,h=>h
 | .exc _,_,⟨a,h1,h2⟩=>⟨a,h1,e _ _ h2⟩
 | .scr _,_,⟨a,h1,h2,h3⟩=>⟨a,h1,Same.seq e h2,h3⟩
 | .tup _,_,⟨a,vs,h1,h2,h3,h4⟩=>⟨a,vs,h1,e _ _ h2,DenL.mono e h3,h4⟩
 | .lst _,_,⟨a,vs,h1,h2,h3,h4⟩=>⟨a,vs,h1,e _ _ h2,DenL.mono e h3,h4⟩
 | .dct _ _,_,⟨a,ob,vs,h1,h2,h3,h4⟩=>⟨a,ob,vs,h1,e _ _ h2,DenL.mono e h3,h4⟩
 | .dci _ _,_,⟨a,ob,vs,h1,h2,h3,h4⟩=>⟨a,ob,vs,h1,e _ _ h2,DenL.mono e h3,h4⟩
theorem DenL.mono(e:Same F F'):∀{ds:List D}{vs:List V},DenL K F ds vs→DenL K F' ds vs
 |[],_,h=>h
 |_::_,_,⟨v,r,h1,h2,h3⟩=>⟨v,r,h1,Den.mono e h2,DenL.mono e h3⟩
end
theorem DenL.nil:DenL K F [] []:=rfl
theorem DenL.cons{d:D}{v:V}{ds:List D}{vs:List V}(h:Den K F d v)(r:DenL K F ds vs):DenL K F (d::ds) (v::vs):=⟨v,vs,rfl,h,r⟩
theorem DenL.len:∀{ds:List D}{vs:List V},DenL K F ds vs→ds.length=vs.length
 |[],_,h=>by cases (show _=_ from h);rfl
 |_::ds,_,⟨v,r,h1,_,h3⟩=>by subst h1;rw[List.length_cons,List.length_cons,DenL.len h3]
theorem DenL.get:∀{ds:List D}{vs:List V}{i:Nat}{d:D},DenL K F ds vs→ds[i]? =some d→∃v,vs[i]? =some v∧Den K F d v
 |[],_,_,_,_,e=>by simp at e
 |d::ds,_,0,_,⟨v,r,h1,h2,h3⟩,e=>by subst h1;simp at e;subst e;exact⟨v,rfl,h2⟩
 |d::ds,_,i+1,_,⟨v,r,h1,h2,h3⟩,e=>by
  subst h1
  obtain⟨w,e1,e2⟩:=DenL.get (i:=i) h3 (by simpa using e)
  exact⟨w,by simpa using e1,e2⟩
theorem DenL.at:∀{ds:List D}{vs:List V}{i:Nat}{v:V},DenL K F ds vs→vs[i]? =some v→∃d,ds[i]? =some d∧Den K F d v
 |[],_,_,_,h,e=>by cases (show _=_ from h);simp at e
 |d::ds,_,0,_,⟨v,r,h1,h2,h3⟩,e=>by subst h1;simp at e;subst e;exact⟨d,rfl,h2⟩
 |d::ds,_,i+1,_,⟨v,r,h1,h2,h3⟩,e=>by
  subst h1
  obtain⟨w,e1,e2⟩:=DenL.at (i:=i) h3 (by simpa using e)
  exact⟨w,by simpa using e1,e2⟩
theorem DenL.append:∀{ds es:List D}{vs ws:List V},DenL K F ds vs→DenL K F es ws→DenL K F (ds++es) (vs++ws)
 |[],_,_,_,h,h'=>by cases (show _=_ from h);exact h'
 |d::ds,_,_,_,⟨v,r,h1,h2,h3⟩,h'=>by subst h1;exact⟨v,_,rfl,h2,DenL.append h3 h'⟩
theorem DenL.take:∀{ds:List D}{vs:List V}(n:Nat),DenL K F ds vs→DenL K F (ds.take n) (vs.take n)
 |_,_,0,_=>by simp[List.take];rfl
 |[],_,_+1,h=>by cases (show _=_ from h);rfl
 |d::ds,_,n+1,⟨v,r,h1,h2,h3⟩=>by subst h1;exact⟨v,_,rfl,h2,DenL.take n h3⟩
theorem DenL.drop:∀{ds:List D}{vs:List V}(n:Nat),DenL K F ds vs→DenL K F (ds.drop n) (vs.drop n)
 |_,_,0,h=>by simpa using h
 |[],_,_+1,h=>by cases (show _=_ from h);rfl
 |d::ds,_,n+1,⟨v,r,h1,h2,h3⟩=>by subst h1;exact DenL.drop n h3
theorem DenL.reverse:∀{ds:List D}{vs:List V},DenL K F ds vs→DenL K F ds.reverse vs.reverse
 |[],_,h=>by cases (show _=_ from h);rfl
 |d::ds,_,⟨v,r,h1,h2,h3⟩=>by
  subst h1
  rw[List.reverse_cons,List.reverse_cons]
  exact DenL.append (DenL.reverse h3) (.cons h2 .nil)
theorem DenL.ints(ns:List Int):DenL K F (ns.map D.int) (ns.map V.int):=by
 induction ns with
 |nil=>rfl
 |cons n ns ih=>exact .cons rfl ih
end
structure Ext (F H F' H':Hp):Prop where
 hh:Same H H'
 ff:Same F F'
 fh:Same F' H'
 new:∀a,H a≠none→F' a=F a∨∃ts,H a=some (.tup ts)
theorem Ext.old{F H F' H':Hp}(e:Ext F H F' H'){a:Addr}{o:HO}(h:H a=some o)(hn:∀ts,o≠ .tup ts):F' a=F a:=by
 rcases e.new a (by rw[h];exact fun z=>nomatch z) with q | ⟨ts,q⟩
 ·exact q
 ·rw[h] at q;cases q;exact absurd rfl (hn ts)
theorem Ext.refl{F H:Hp}(h:Same F H):Ext F H F H:=⟨Same.refl _,Same.refl _,h,fun _ _=> .inl rfl⟩
theorem Ext.trans{F H F' H' F'' H'':Hp}(a:Ext F H F' H')(b:Ext F' H' F'' H''):Ext F H F'' H'':=
 ⟨a.hh.trans b.hh,a.ff.trans b.ff,b.fh,fun c hc=>by
  have:H' c≠none:=by
   cases q:H c with
   |none=>exact absurd q hc
   |some o=>rw[a.hh c o q];exact fun z=>nomatch z
  rcases a.new c hc with p | p
  ·rcases b.new c this with q | ⟨ts,q⟩
   ·exact .inl (q.trans p)
   ·cases z:H c with
    |none=>exact absurd z hc
    |some o=>
     rw[a.hh c o z] at q
     exact .inr ⟨ts,q⟩
  ·exact .inr p⟩
theorem Ext.lay{F H:Hp}{a:Addr}{o:HO}(h:Same F H)(n:H a=none):Ext F H (upd F a o) (upd H a o):=by
 have nf:F a=none:=Same.free h n
 refine⟨fun b u e=>?_,fun b u e=>?_,fun b u e=>?_,fun b hb=>?_⟩
 ·rw[av (ba e n)];exact e
 ·rw[av (ba e nf)];exact e
 ·by_cases q:b=a
  ·subst q;rw[aF] at e⊢;exact e
  ·rw[av q] at e⊢;exact h b u e
 ·exact .inl (av fun z=>hb (by rw[z];exact n))
theorem Ext.free{F H:Hp}{a:Addr}{o:HO}(h:Same F H)(n:H a=none):Ext F H F (upd H a o):=
 ⟨fun b u e=>by rw[av (ba e n)];exact e,Same.refl _,fun b u e=>by rw[av (ba (h b u e) n)];exact h b u e,fun _ _=> .inl rfl⟩
theorem Ext.tup{F H:Hp}{a:Addr}{ts:List V}(h:Same F H)(e:H a=some (.tup ts)):Ext F H (upd F a (.tup ts)) H:=by
 refine⟨Same.refl _,fun b u q=>?_,fun b u q=>?_,fun b hb=>?_⟩
 ·by_cases z:b=a
  ·subst z;rw[aF,←e];exact h b u q
  ·rw[av z];exact q
 ·by_cases z:b=a
  ·subst z;rw[aF] at q;rw[e];exact q
  ·rw[av z] at q;exact h b u q
 ·by_cases z:b=a
  ·subst z;exact .inr ⟨ts,e⟩
  ·exact .inl (av z)
def WP(K:W.Frag)(Xw:Nat→Hp→Prop)(F H:Hp)(m:M D)(Q:VK):Prop:=
 match m with
 |none=>False
 |some (.ok d)=>∀v H' F',Ext F H F' H'→Den K F' d v→Q v H'
 |some (.ex n)=>∀F' H',Ext F H F' H'→Xw n H'
def WPL(K:W.Frag)(Xw:Nat→Hp→Prop)(F H:Hp)(m:M (List D))(Q:List V→Hp→Prop):Prop:=
 match m with
 |none=>False
 |some (.ok ds)=>∀vs H' F',Ext F H F' H'→DenL K F' ds vs→Q vs H'
 |some (.ex n)=>∀F' H',Ext F H F' H'→Xw n H'
def WPB(Xw:Nat→Hp→Prop)(F H:Hp)(m:M Bool)(Q:Bool→Hp→Prop):Prop:=
 match m with
 |none=>False
 |some (.ok b)=>∀H' F',Ext F H F' H'→Q b H'
 |some (.ex n)=>∀F' H',Ext F H F' H'→Xw n H'
section
variable{K:W.Frag}{Xw:Nat→Hp→Prop}{F F' H H':Hp}{Q:VK}
theorem WP.ext{m:M D}(e:Ext F H F' H')(h:WP K Xw F H m Q):WP K Xw F' H' m Q:=by
 match m,h with
 |none,h=>exact h
 |some (.ok d),h=>exact fun v H2 F2 e2 q=>h v H2 F2 (e.trans e2) q
 |some (.ex n),h=>exact fun F2 H2 e2=>h F2 H2 (e.trans e2)
theorem WPL.ext{m:M (List D)}{Q:List V→Hp→Prop}(e:Ext F H F' H')(h:WPL K Xw F H m Q):WPL K Xw F' H' m Q:=by
 match m,h with
 |none,h=>exact h
 |some (.ok d),h=>exact fun v H2 F2 e2 q=>h v H2 F2 (e.trans e2) q
 |some (.ex n),h=>exact fun F2 H2 e2=>h F2 H2 (e.trans e2)
theorem WPB.ext{m:M Bool}{Q:Bool→Hp→Prop}(e:Ext F H F' H')(h:WPB Xw F H m Q):WPB Xw F' H' m Q:=by
 match m,h with
 |none,h=>exact h
 |some (.ok d),h=>exact fun H2 F2 e2=>h H2 F2 (e.trans e2)
 |some (.ex n),h=>exact fun F2 H2 e2=>h F2 H2 (e.trans e2)
theorem WP.fin{d:D}{v:V}(h:WP K Xw F H (M.ret d) Q)(e:Ext F H F' H')(q:Den K F' d v):Q v H':=h v H' F' e q
theorem WP.now{d:D}{v:V}(h:WP K Xw F H (M.ret d) Q)(s:Same F H)(q:Den K F d v):Q v H:=h v H F (Ext.refl s) q
theorem WP.bind{m:M D}{k:D→M D}(h:WP K Xw F H (m>>=k) Q):WP K Xw F H m fun v H1=>∃F1 d,Ext F H F1 H1∧Den K F1 d v∧WP K Xw F1 H1 (k d) Q:=by
 match m,h with
 |none,h=>exact h
 |some (.ok d),h=>exact fun v H2 F2 e2 q=>⟨F2,d,e2,q,WP.ext e2 (show WP K Xw F H (k d) Q from h)⟩
 |some (.ex n),h=>exact h
theorem WP.bindL{m:M (List D)}{k:List D→M D}(h:WP K Xw F H (m>>=k) Q):WPL K Xw F H m fun vs H1=>∃F1 ds,Ext F H F1 H1∧DenL K F1 ds vs∧WP K Xw F1 H1 (k ds) Q:=by
 match m,h with
 |none,h=>exact h
 |some (.ok d),h=>exact fun v H2 F2 e2 q=>⟨F2,d,e2,q,WP.ext e2 (show WP K Xw F H (k d) Q from h)⟩
 |some (.ex n),h=>exact h
theorem WPB.bind{m:M D}{k:D→M Bool}{Q:Bool→Hp→Prop}(h:WPB Xw F H (m>>=k) Q):WP K Xw F H m fun v H1=>∃F1 d,Ext F H F1 H1∧Den K F1 d v∧WPB Xw F1 H1 (k d) Q:=by
 match m,h with
 |none,h=>exact h
 |some (.ok d),h=>exact fun v H2 F2 e2 q=>⟨F2,d,e2,q,WPB.ext e2 (show WPB Xw F H (k d) Q from h)⟩
 |some (.ex n),h=>exact h
theorem WPB.bindB{m:M Bool}{k:Bool→M Bool}{Q:Bool→Hp→Prop}(h:WPB Xw F H (m>>=k) Q):WPB Xw F H m fun b H1=>∃F1,Ext F H F1 H1∧WPB Xw F1 H1 (k b) Q:=by
 match m,h with
 |none,h=>exact h
 |some (.ok d),h=>exact fun H2 F2 e2=>⟨F2,e2,WPB.ext e2 (show WPB Xw F H (k d) Q from h)⟩
 |some (.ex n),h=>exact h
theorem WPL.bind{m:M D}{k:D→M (List D)}{Q:List V→Hp→Prop}(h:WPL K Xw F H (m>>=k) Q):WP K Xw F H m fun v H1=>∃F1 d,Ext F H F1 H1∧Den K F1 d v∧WPL K Xw F1 H1 (k d) Q:=by
 match m,h with
 |none,h=>exact h
 |some (.ok d),h=>exact fun v H2 F2 e2 q=>⟨F2,d,e2,q,WPL.ext e2 (show WPL K Xw F H (k d) Q from h)⟩
 |some (.ex n),h=>exact h
theorem WPL.bindL{m:M (List D)}{k:List D→M (List D)}{Q:List V→Hp→Prop}(h:WPL K Xw F H (m>>=k) Q):WPL K Xw F H m fun vs H1=>∃F1 ds,Ext F H F1 H1∧DenL K F1 ds vs∧WPL K Xw F1 H1 (k ds) Q:=by
 match m,h with
 |none,h=>exact h
 |some (.ok d),h=>exact fun v H2 F2 e2 q=>⟨F2,d,e2,q,WPL.ext e2 (show WPL K Xw F H (k d) Q from h)⟩
 |some (.ex n),h=>exact h
theorem WP.mono{m:M D}{Q':VK}(h:WP K Xw F H m Q)(k:∀v H',Q v H'→Q' v H'):WP K Xw F H m Q':=by
 match m,h with
 |none,h=>exact h
 |some (.ok d),h=>exact fun v H2 F2 e2 q=>k _ _ (h v H2 F2 e2 q)
 |some (.ex n),h=>exact h
theorem WPL.mono{m:M (List D)}{Q Q':List V→Hp→Prop}(h:WPL K Xw F H m Q)(k:∀v H',Q v H'→Q' v H'):WPL K Xw F H m Q':=by
 match m,h with
 |none,h=>exact h
 |some (.ok d),h=>exact fun v H2 F2 e2 q=>k _ _ (h v H2 F2 e2 q)
 |some (.ex n),h=>exact h
theorem WPB.mono{m:M Bool}{Q Q':Bool→Hp→Prop}(h:WPB Xw F H m Q)(k:∀v H',Q v H'→Q' v H'):WPB Xw F H m Q':=by
 match m,h with
 |none,h=>exact h
 |some (.ok d),h=>exact fun H2 F2 e2=>k _ _ (h H2 F2 e2)
 |some (.ex n),h=>exact h
end
inductive C where
 |lst (l:List D) | dct (ks:List (List Key)) (l:List D) | dci (ks:List Key) (l:List D)
def C.d:C→D
 | .lst ds=> .lst ds
 | .dct ks ds=> .dct ks ds
 | .dci ks ds=> .dci ks ds
inductive Sl where
 |fz (d:D) | ow (c:C)
abbrev aX:=List (Option Sl)
def DenC(K:W.Frag)(F:Hp):C→HO→Prop
 | .lst ds,o=>∃vs,o= .lst vs∧DenL K F ds vs∧ds.length≤lim
 | .dct ks ds,o=>∃vs,o= .dT (ks.zip vs)∧DenL K F ds vs∧ks.length=ds.length∧ds.length≤lim
 | .dci ks ds,o=>∃vs,o= .dK (ks.zip vs)∧DenL K F ds vs∧ks.length=ds.length∧ds.length≤lim
theorem DenC.mono{K:W.Frag}{F F':Hp}(e:Same F F'):∀{c:C}{o:HO},DenC K F c o→DenC K F' c o
 | .lst _,_,⟨vs,h1,h2,h3⟩=>⟨vs,h1,DenL.mono e h2,h3⟩
 | .dct _ _,_,⟨vs,h1,h2,h3⟩=>⟨vs,h1,DenL.mono e h2,h3⟩
 | .dci _ _,_,⟨vs,h1,h2,h3⟩=>⟨vs,h1,DenL.mono e h2,h3⟩
theorem DenC.notup{K:W.Frag}{F:Hp}:∀{c:C}{o:HO},DenC K F c o→∀ts,o≠ .tup ts
 | .lst _,_,⟨_,h1,_⟩,ts,z=>by rw[h1] at z;cases z
 | .dct _ _,_,⟨_,h1,_⟩,ts,z=>by rw[h1] at z;cases z
 | .dci _ _,_,⟨_,h1,_⟩,ts,z=>by rw[h1] at z;cases z
def mw(ob:Obj):HO→HO
 | .dT aw=> .frz ob (.dT aw)
 | .dK aw=> .frz ob (.dK aw)
 |o=>o
theorem DenC.den{K:W.Frag}{F F':Hp}{a:Addr}{ob:Obj}:∀{c:C}{o:HO},DenC K F c o→Same F F'→F' a=some (mw ob o)→Den K F' c.d (.ref a)
 | .lst _,_,⟨vs,h1,h2,h3⟩,e,q=>by subst h1;exact⟨a,vs,rfl,q,DenL.mono e h2,h3⟩
 | .dct _ _,_,⟨vs,h1,h2,h3⟩,e,q=>by subst h1;exact⟨a,ob,vs,rfl,q,DenL.mono e h2,h3⟩
 | .dci _ _,_,⟨vs,h1,h2,h3⟩,e,q=>by subst h1;exact⟨a,ob,vs,rfl,q,DenL.mono e h2,h3⟩
def DenO(K:W.Frag)(F H:Hp):Sl→V→Prop
 | .fz d,v=>Den K F d v
 | .ow c,v=>∃a o,v= .ref a∧H a=some o∧F a=none∧DenC K F c o
structure StE (K:W.Frag) (F H:Hp) (σ:St) (ρ:aX):Prop where
 fh:Same F H
 den:∀(i:Nat) (sl:Sl),ρ[i]? =some (some sl)→∃v,σ[i]? =some (some v)∧DenO K F H sl v
theorem DenO.ext{K:W.Frag}{F H F' H':Hp}(e:Ext F H F' H'):∀{sl:Sl}{v:V},DenO K F H sl v→DenO K F' H' sl v
 | .fz _,_,h=>Den.mono e.ff h
 | .ow _,_,⟨a,o,h1,h2,h3,h4⟩=>⟨a,o,h1,e.hh _ _ h2,by rw[e.old h2 h4.notup];exact h3,DenC.mono e.ff h4⟩
theorem StE.ext{K:W.Frag}{F H F' H':Hp}{σ:St}{ρ:aX}(s:StE K F H σ ρ)(e:Ext F H F' H'):StE K F' H' σ ρ:=
 ⟨e.fh,fun i sl q=>let ⟨v,h1,h2⟩:=s.den i sl q;⟨v,h1,h2.ext e⟩⟩
abbrev DE:=aX→M D
abbrev DT:=aX→M Bool
abbrev DA:=aX→M (List D)
def tD(K:W.Frag)(Xw:Nat→Hp→Prop)(δ:DE):TE:=fun σ H Q=>∃F ρ,StE K F H σ ρ∧WP K Xw F H (δ ρ) Q
def Mz(K:W.Frag)(Xw:Nat→Hp→Prop)(δ:DT):TT:=fun σ H Q=>∃F ρ,StE K F H σ ρ∧WPB Xw F H (δ ρ) Q
def NP(K:W.Frag)(Xw:Nat→Hp→Prop)(δ:DA):TA:=fun σ H Q=>∃F ρ,StE K F H σ ρ∧WPL K Xw F H (δ ρ) Q
def PD(X:Cx)(Xw:Nat→Hp→Prop)(e:Expr)(δ:DE):Prop:=PE X e (tD X.K Xw δ)
def o6(X:Cx)(Xw:Nat→Hp→Prop)(e:Expr)(δ:DT):Prop:=PT X e (Mz X.K Xw δ)
def mC(X:Cx)(Xw:Nat→Hp→Prop)(es:List Expr)(δ:DA):Prop:=PA X es (NP X.K Xw δ)
theorem PE.weak{X:Cx}{e:Expr}{t t':TE}(h:PE X e t)(k:∀σ H Q,t' σ H Q→t σ H Q):PE X e t':=fun pins s σ H Q I w=>h pins s σ H Q I (k σ H Q w)
theorem PT.weak{X:Cx}{e:Expr}{t t':TT}(h:PT X e t)(k:∀σ H Q,t' σ H Q→t σ H Q):PT X e t':=fun pins s σ H Q I w=>h pins s σ H Q I (k σ H Q w)
theorem PA.weak{X:Cx}{e:List Expr}{t t':TA}(h:PA X e t)(k:∀σ H Q,t' σ H Q→t σ H Q):PA X e t':=fun pos pins s σ H Q I w=>h pos pins s σ H Q I (k σ H Q w)
def dV(i:Nat):DE:=fun ρ=>match ρ[i]? with
 |some (some (.fz d))=>M.ret d
 |_=>M.stuck
def dC(d:D):DE:=fun _=>M.ret d
def d1(g:D→M D)(a:DE):DE:=fun ρ=>a ρ>>=g
def d2(g:D→D→M D)(a b:DE):DE:=fun ρ=>a ρ>>=fun x=>b ρ>>=fun y=>g x y
def aN:DA:=fun _=>M.ret []
def aC(a:DE)(r:DA):DA:=fun ρ=>a ρ>>=fun x=>r ρ>>=fun xs=>M.ret (x::xs)
def dA(g:List D→M D)(a:DA):DE:=fun ρ=>a ρ>>=g
def z9:D→M Bool
 | .bl b=>M.ret b
 |_=>M.stuck
def cY(a:DE):DT:=fun ρ=>a ρ>>=z9
def ph(a b:DT):DT:=fun ρ=>a ρ>>=fun x=>if x then b ρ else M.ret false
def i6(a b:DT):DT:=fun ρ=>a ρ>>=fun x=>if x then M.ret true else b ρ
def cN(a:DT):DT:=fun ρ=>a ρ>>=fun x=>M.ret (!x)
def eL(a b:DE):DE:=fun ρ=>a ρ>>=fun x=>z9 x>>=fun c=>if c then b ρ else M.ret (.bl false)
def Fd(a:DE):DE:=fun ρ=>a ρ>>=fun x=>z9 x>>=fun c=>M.ret (.bl (!c))
section
variable{X:Cx}{Xw:Nat→Hp→Prop}{a b:Expr}{δa δb:DE}{pos:Pos}
theorem ab{i:Nat}{x:Str}(h:PE X (.Name x pos) (oU i)):PD X Xw (.Name x pos) (dV i):=PE.weak h fun σ H Q ⟨F,ρ,s,w⟩=>by
 unfold dV at w
 split at w
 ·rename_i d e
  obtain⟨v,h1,h2⟩:=s.den i _ e
  exact⟨v,h1,WP.now w s.fh h2⟩
 ·exact w.elim
theorem fQ{e:Expr}{d:D}{v:V}(h:PE X e (tC v))(hd:∀F,Den X.K F d v):PD X Xw e (dC d):=PE.weak h fun σ H Q ⟨F,ρ,s,w⟩=>WP.now w s.fh (hd F)
theorem ar{i j}:PD X Xw (.Constant (.int i) j pos) (dC (.int i)):=fQ Hh fun _=>rfl
theorem fP{i j}:PD X Xw (.Constant (.bool i) j pos) (dC (.bl i)):=fQ JN fun _=>rfl
theorem Hc{j}:PD X Xw (.Constant .none j pos) (dC .non):=fQ Hi fun _=>rfl
theorem g0{x j}(h:x.length≤lim:=by decide):PD X Xw (.Constant (.str x) j pos) (dC (.str x)):=fQ Hm fun _=>⟨rfl,h⟩
def vO(K:W.Frag)(r:R2)(g:D→D→M D):Prop:=∀(Xw:Nat→Hp→Prop) (F H:Hp) (x y:V) (dx dy:D) (Q:VK),Same F H→Den K F dx x→Den K F dy y→WP K Xw F H (g dx dy) Q→r x y H Q
theorem tE{r:R2}{g:D→D→M D}(hg:vO X.K r g):∀σ H Q,tD X.K Xw (d2 g δa δb) σ H Q→Kh r (tD X.K Xw δa) (tD X.K Xw δb) σ H Q:=fun σ H Q ⟨F,ρ,s,w⟩=>by
 refine⟨F,ρ,s,WP.mono (WP.bind w) fun v H1 ⟨F1,d,e1,q1,w1⟩=>?_⟩
 refine⟨F1,ρ,s.ext e1,WP.mono (WP.bind w1) fun u H2 ⟨F2,d',e2,q2,w2⟩=>?_⟩
 exact hg Xw F2 H2 v u d d' Q e2.fh (Den.mono e2.ff q1) q2 w2
theorem qL{op:Operator}{r:R2}{g:D→D→M D}(ho:OpR X (binaryOp op) r)(hg:vO X.K r g)(ha:PD X Xw a δa)(hb:PD X Xw b δb):PD X Xw (.BinOp a op b pos) (d2 g δa δb):=
 PE.weak (JP ho ha hb) (tE hg)
theorem BR{op:CmpOp}{r:R2}{g:D→D→M D}(ho:OpR X (compareOp op) r)(hg:vO X.K r g)(ha:PD X Xw a δa)(hb:PD X Xw b δb)(hm:behindInMarks op b=false:=by first | exact BB _ | rfl):PD X Xw (.Compare a [op] [b] pos) (d2 g δa δb):=
 PE.weak (Et ho ha hb hm) (tE hg)
theorem gp{op:CmpOp}{r:R2}{g:D→D→M D}(ho:OpR X (compareOp op) r)(hg:vO X.K r g)(ha:PD X Xw a δa)(hb:PD X Xw b δb)(hm:behindInMarks op b=false:=by first | exact BB _ | rfl):o6 X Xw (.Compare a [op] [b] pos) (cY (d2 g δa δb)):=
 PT.weak (EH ho ha hb hm) fun σ H Q ⟨F,ρ,s,w⟩=>by
  refine tE hg σ H _ ⟨F,ρ,s,WP.mono (WPB.bind w) fun v H1 ⟨F1,d,e1,q1,w1⟩=>?_⟩
  cases d with
  |bl k=>exact⟨k,q1,w1 _ _ (Ext.refl e1.fh)⟩
  |_=>exact w1.elim
theorem ym{r:R2}{g:D→D→M D}(hr:Il X r)(hg:vO X.K r g)(ha:PD X Xw a δa)(hb:PD X Xw b δb)(hs:iq b:=by intro _ _;rfl):PD X Xw (.Subscript a b pos) (d2 g δa δb):=
 PE.weak (JO hr ha hb hs) (tE hg)
theorem ae:mC X Xw [] aN:=PA.weak sy fun σ H Q ⟨F,ρ,s,w⟩=>w [] H F (Ext.refl s.fh) rfl
theorem aa{es:List Expr}{δs:DA}(ha:PD X Xw a δa)(hr:mC X Xw es δs)(hs:starEach (a::es) X.env=(false,eval a X.env)::starEach es X.env:=by rfl):mC X Xw (a::es) (aC δa δs):=
 PA.weak (sx ha hr hs) fun σ H Q ⟨F,ρ,s,w⟩=>by
  refine⟨F,ρ,s,WP.mono (WPL.bind w) fun v H1 ⟨F1,d,e1,q1,w1⟩=>?_⟩
  refine⟨F1,ρ,s.ext e1,WPL.mono (WPL.bindL w1) fun vs H2 ⟨F2,ds,e2,q2,w2⟩=>?_⟩
  exact w2 _ _ _ (Ext.refl e2.fh) (.cons (Den.mono e2.ff q1) q2)
def dP(ds:List D):M D:=if ds.length≤lim then M.ret (.tup ds) else M.stuck
def fN(ds:List D):M D:=if ds.length≤lim then M.ret (.lst ds) else M.stuck
theorem wu{ds:List D}{f:List D→D}{Q:VK}{F H:Hp}(w:WP X.K Xw F H (if ds.length≤lim then M.ret (f ds) else M.stuck) Q):ds.length≤lim∧WP X.K Xw F H (M.ret (f ds)) Q:=by
 split at w
 ·rename_i h;exact⟨h,w⟩
 ·exact w.elim
theorem gm{x1}{es:List Expr}{δs:DA}(h:mC X Xw es δs):PD X Xw (.Tuple es x1 pos) (dA dP δs):=PE.weak (Hn h) fun σ H Q ⟨F,ρ,s,w⟩=>by
 refine⟨F,ρ,s,WPL.mono (WP.bindL w) fun vs H1 ⟨F1,ds,e1,q1,w1⟩=>?_⟩
 obtain⟨hl,w1⟩:=wu (X:=X) w1
 have hv:=q1.len
 refine⟨by have:=dB;omega,fun p hp=>WP.fin w1 (Ext.lay e1.fh hp) ⟨p,vs,rfl,aF,DenL.mono (Ext.lay e1.fh hp).ff q1,hl⟩⟩
theorem ou{es:List Expr}{δs:DA}(h:mC X Xw es δs):PD X Xw (.List es pos) (dA fN δs):=PE.weak (B5 h) fun σ H Q ⟨F,ρ,s,w⟩=>by
 refine⟨F,ρ,s,WPL.mono (WP.bindL w) fun vs H1 ⟨F1,ds,e1,q1,w1⟩=>?_⟩
 obtain⟨hl,w1⟩:=wu (X:=X) w1
 have hv:=q1.len
 refine⟨by have:=dB;omega,fun p hp=>WP.fin w1 (Ext.lay e1.fh hp) ⟨p,vs,rfl,aF,DenL.mono (Ext.lay e1.fh hp).ff q1,hl⟩⟩
end
def ItD(K:W.Frag)(F:Hp)(J:It)(ds:List D):Prop:=∀(F' H':Hp) (i:Nat),Same F F'→Same F' H'→
 (∀d,ds[i]? =some d→J.go i H'∧∀x H'',J.yld i H' x H''→∃F'',Ext F' H' F'' H''∧Den K F'' d x)∧(ds.length≤i→J.stop i H')
theorem ItD.mono{K:W.Frag}{F F1:Hp}{J:It}{ds:List D}(h:ItD K F J ds)(e:Same F F1):ItD K F1 J ds:=fun F' H' i s1 s2=>h F' H' i (e.trans s1) s2
def WPI(K:W.Frag)(Xw:Nat→Hp→Prop)(F H:Hp)(m:M (List D))(R:It→Hp→Prop):Prop:=
 match m with
 |none=>False
 |some (.ok ds)=>∀J H' F',Ext F H F' H'→ItD K F' J ds→R J H'
 |some (.ex n)=>∀F' H',Ext F H F' H'→Xw n H'
def Pw(K:W.Frag)(Xw:Nat→Hp→Prop)(δ:DA):TI:=fun σ H R=>∃F ρ,StE K F H σ ρ∧WPI K Xw F H (δ ρ) R
def xr(X:Cx)(Xw:Nat→Hp→Prop)(tg iter:Expr)(δ:DA):Prop:=PI X tg iter (Pw X.K Xw δ)
theorem PI.weak{X:Cx}{tg e:Expr}{t t':TI}(h:PI X tg e t)(k:∀σ H Q,t' σ H Q→t σ H Q):PI X tg e t':=fun pins s σ H Q I w=>h pins s σ H Q I (k σ H Q w)
theorem WPI.bind{K:W.Frag}{Xw:Nat→Hp→Prop}{F H:Hp}{m:M D}{k:D→M (List D)}{R:It→Hp→Prop}(h:WPI K Xw F H (m>>=k) R):
 WP K Xw F H m fun v H1=>∃F1 d,Ext F H F1 H1∧Den K F1 d v∧WPI K Xw F1 H1 (k d) R:=by
 match m,h with
 |none,h=>exact h
 |some (.ok d),h=>
  refine fun v H2 F2 e2 q=>⟨F2,d,e2,q,?_⟩
  have h:WPI K Xw F H (k d) R:=h
  show WPI K Xw F2 H2 (k d) R
  match k d,h with
  |none,h=>exact h
  |some (.ok ds),h=>exact fun J H3 F3 e3 q3=>h J H3 F3 (e2.trans e3) q3
  |some (.ex n),h=>exact fun F3 H3 e3=>h F3 H3 (e2.trans e3)
 |some (.ex n),h=>exact h
theorem WPI.bindL{K:W.Frag}{Xw:Nat→Hp→Prop}{F H:Hp}{m:M (List D)}{k:List D→M (List D)}{R:It→Hp→Prop}(h:WPI K Xw F H (m>>=k) R):
 WPL K Xw F H m fun v H1=>∃F1 d,Ext F H F1 H1∧DenL K F1 d v∧WPI K Xw F1 H1 (k d) R:=by
 match m,h with
 |none,h=>exact h
 |some (.ok d),h=>
  refine fun v H2 F2 e2 q=>⟨F2,d,e2,q,?_⟩
  have h:WPI K Xw F H (k d) R:=h
  show WPI K Xw F2 H2 (k d) R
  match k d,h with
  |none,h=>exact h
  |some (.ok ds),h=>exact fun J H3 F3 e3 q3=>h J H3 F3 (e2.trans e3) q3
  |some (.ex n),h=>exact fun F3 H3 e3=>h F3 H3 (e2.trans e3)
 |some (.ex n),h=>exact h
def lstM:D→M (List D)
 | .lst ds=>M.ret ds
 |_=>M.stuck
def MJ:D→M (List D)
 | .tup ds=>M.ret ds
 |_=>M.stuck
def eM(a:DE):DA:=fun ρ=>a ρ>>=lstM
def pj(a:DE):DA:=fun ρ=>a ρ>>=MJ
theorem Bh{K:W.Frag}{F:Hp}{a:Addr}{vs:List V}{ds:List D}(h:SqL K F a vs)(hd:DenL K F ds vs):ItD K F (K6 K a) ds:=fun F' H' i s1 s2=>by
 have hs:=Same.seq s2 (Same.seq s1 h)
 refine⟨fun d e=>?_,fun hl=>⟨vs,hs,by rw[←hd.len];exact hl⟩⟩
 obtain⟨v,e1,q⟩:=hd.get e
 refine⟨⟨vs,v,hs,e1⟩,fun x H'' y=>?_⟩
 obtain⟨e2,y⟩:=y
 subst e2
 have:=y vs hs
 rw[e1] at this
 cases this
 exact⟨F',Ext.refl s2,Den.mono s1 q⟩
theorem DV{K:W.Frag}{F:Hp}{a:Addr}{vs:List V}{ds:List D}(h:SqT K F a vs)(hd:DenL K F ds vs):ItD K F (K7 K a) ds:=fun F' H' i s1 s2=>by
 have hs:=Same.tup s2 (Same.tup s1 h)
 refine⟨fun d e=>?_,fun hl=>⟨vs,hs,by rw[←hd.len];exact hl⟩⟩
 obtain⟨v,e1,q⟩:=hd.get e
 refine⟨⟨vs,v,hs,e1⟩,fun x H'' y=>?_⟩
 obtain⟨e2,y⟩:=y
 subst e2
 have:=y vs hs
 rw[e1] at this
 cases this
 exact⟨F',Ext.refl s2,Den.mono s1 q⟩
def fU(lo:Int)(n:Nat):List D:=(List.range n).map fun(i:Nat)=>D.int (lo+(i:Int))
theorem qi{K:W.Frag}{F:Hp}(lo:Int)(n:Nat):ItD K F (Ik lo n) (fU lo n):=fun F' H' i s1 s2=>by
 refine⟨fun d e=>?_,fun hl=>show n≤i by simpa[fU] using hl⟩
 unfold fU at e
 rw[List.getElem?_map] at e
 have hi:i<n:=by
  by_cases hi:i<n
  ·exact hi
  ·rw[List.getElem?_eq_none (by simpa using hi)] at e;cases e
 rw[List.getElem?_range hi] at e
 cases e
 refine⟨hi,fun x H'' y=>?_⟩
 obtain⟨e2,y⟩:=y
 subst e2 y
 exact⟨F',Ext.refl s2,rfl⟩
section
variable{X:Cx}{Xw:Nat→Hp→Prop}{tg l:Expr}{δ:DE}{pos:Pos}
theorem cb(h:PD X Xw l δ):xr X Xw tg l (eM δ):=PI.weak (Ex h) fun σ H R ⟨F,ρ,s,w⟩=>by
 refine⟨F,ρ,s,WP.mono (WPI.bind w) fun v H1 ⟨F1,d,e1,q1,w1⟩=>?_⟩
 cases d with
 |lst ds=>
  obtain⟨a,vs,h1,h2,h3,h4⟩:=q1
  exact⟨a,h1,⟨vs,Same.seq e1.fh (SqL.of h2)⟩,w1 _ _ _ (Ext.refl e1.fh) (Bh (SqL.of h2) h3)⟩
 |_=>exact w1.elim
theorem sF(h:PD X Xw l δ):xr X Xw tg l (pj δ):=PI.weak (Hs h) fun σ H R ⟨F,ρ,s,w⟩=>by
 refine⟨F,ρ,s,WP.mono (WPI.bind w) fun v H1 ⟨F1,d,e1,q1,w1⟩=>?_⟩
 cases d with
 |tup ds=>
  obtain⟨a,vs,h1,h2,h3,h4⟩:=q1
  exact⟨a,h1,⟨vs,Same.tup e1.fh (SqT.of h2)⟩,w1 _ _ _ (Ext.refl e1.fh) (DV (SqT.of h2) h3)⟩
 |_=>exact w1.elim
def j2:List D→M (List D)
 |[.int j]=>if -4096≤j∧j≤4096 then M.ret (fU 0 j.toNat) else M.stuck
 |_=>M.stuck
def oH:List D→M (List D)
 |[.int i, .int j]=>if (-4096≤i∧i≤4096)∧(-4096≤j∧j≤4096) then M.ret (fU i (j - i).toNat) else M.stuck
 |_=>M.stuck
theorem DenL.one{K:W.Frag}{F:Hp}{d:D}{vs:List V}(h:DenL K F [d] vs):∃v,vs=[v]∧Den K F d v:=by
 obtain⟨v,r,h1,h2,h3⟩:=h
 cases (show r=[] from h3)
 exact⟨v,h1,h2⟩
theorem DenL.two{K:W.Frag}{F:Hp}{d d':D}{vs:List V}(h:DenL K F [d,d'] vs):∃v v',vs=[v,v']∧Den K F d v∧Den K F d' v':=by
 obtain⟨v,r,h1,h2,h3⟩:=h
 obtain⟨v',h4,h5⟩:=h3.one
 subst h4
 exact⟨v,v',h1,h2,h5⟩
theorem gn{a:Expr}{δs:DA}{p:Pos}(hg:Gl X "range")(hm:X.mg "range"=none)(ha:mC X Xw [a] δs)(hs:starEach [a] X.env=[(false,eval a X.env)]:=by rfl):xr X Xw tg (.Call (.Name "range" p) [a] [] pos) (fun ρ=>δs ρ>>=j2):=
 PI.weak (zK hg hm ha hs) fun σ H R ⟨F,ρ,s,w⟩=>by
  refine⟨F,ρ,s,WPL.mono (WPI.bindL w) fun vs H1 ⟨F1,ds,e1,q1,w1⟩=>?_⟩
  unfold j2 at w1
  split at w1
  ·rename_i j
   obtain⟨v,h1,h2⟩:=q1.one
   cases (show v=_ from h2)
   split at w1
   ·exact⟨j,h1,by omega,by omega,w1 _ _ _ (Ext.refl e1.fh) (qi 0 _)⟩
   ·exact w1.elim
  ·exact w1.elim
theorem ja{a b:Expr}{δs:DA}{p:Pos}(hg:Gl X "range")(hm:X.mg "range"=none)(ha:mC X Xw [a,b] δs)(hs:starEach [a,b] X.env=[(false,eval a X.env),(false,eval b X.env)]:=by rfl)
 (KI:starEach [b] X.env=[(false,eval b X.env)]:=by rfl):xr X Xw tg (.Call (.Name "range" p) [a,b] [] pos) (fun ρ=>δs ρ>>=oH):=
 PI.weak (zL hg hm ha hs KI) fun σ H R ⟨F,ρ,s,w⟩=>by
  refine⟨F,ρ,s,WPL.mono (WPI.bindL w) fun vs H1 ⟨F1,ds,e1,q1,w1⟩=>?_⟩
  unfold oH at w1
  split at w1
  ·rename_i i j
   obtain⟨v,v',h1,h2,h3⟩:=q1.two
   cases (show v=_ from h2)
   cases (show v'=_ from h3)
   split at w1
   ·exact⟨i,j,h1,⟨by omega,by omega,by omega,by omega⟩,w1 _ _ _ (Ext.refl e1.fh) (qi i _)⟩
   ·exact w1.elim
  ·exact w1.elim
end
def dz(tg N:List Str):List Str:=N.map fun y=>if tg.contains y then y++(" ":Str) else y
def iQ(X:Cx)(scope:Scope)(tn:List Str)(pins:List (Addr×Obj))(cl:List (Str×Addr))(C:Addr)(fp:List Addr)(s₂:Shared)(H:Hp):Cx:=
 {X with N:=tn++dz tn X.N,s₀:=s₂,H₀:=H,env:=compEnvC scope cl C X.env,outer:=X.stack,ex:=fp,fn:=fun _=>false,pn:=X.pn++pins,xe:=fun _ _=>False}
structure CompSc (X:Cx) (scope:Scope) (tn:List Str):Prop where
 kind:scope.kind= .function
 nocell:∀y∈scope.names,y.2≠ .cell
 names:∀y∈scope.names,y.2= .local→scope.names.lookup y.1=some .local
 frees:∀y∈scope.names,y.2= .free→X.env.kindOf y.1=some .cell∨X.env.kindOf y.1=some .free
 vis:∀p∈(dz tn X.N).zip X.N,scope.names.lookup p.1=none∨(p.1=p.2∧scope.names.lookup p.1=some .free)
theorem i5{env:Env}:∀(names:List (Str×NameKind)) (acc:List (Str×Addr)),(∀y∈names,y.2= .free→∃c,env.cells.lookup y.1=some c)→
 (∀x c,acc.lookup x=some c→env.cells.lookup x=some c)→
 ∃cl,(forIn names acc (fun (x:Str×NameKind) (r:List (Str×Addr))=>do
   let __x:=x
   if (__x.2==NameKind.free)=true then do let c←cellOf env __x.1;pure (ForInStep.yield ((__x.1,c)::r)) else pure (ForInStep.yield r)):Sem (List (Str×Addr)))=pure cl∧
  (∀x c,cl.lookup x=some c→env.cells.lookup x=some c)∧(∀x c,acc.lookup x=some c→∃c',cl.lookup x=some c')∧(∀x,names.lookup x=some .free→∃c,cl.lookup x=some c)
 |[],acc,_,h2=>⟨acc,rfl,h2,fun x c e=>⟨c,e⟩,fun x e=>by simp at e⟩
 |(n,k)::r,acc,h1,h2=>by
  by_cases hk:k= .free
  ·subst hk
   obtain⟨c,hc⟩:=h1 (n, .free) List.mem_cons_self rfl
   obtain⟨cl,e,a1,a2,a3⟩:=i5 r ((n,c)::acc) (fun y hy=>h1 y (List.mem_cons_of_mem _ hy)) (fun x c' q=>by
    rw[List.lookup_cons] at q
    split at q
    ·rename_i hx
     cases q
     rw[show x=n from by simpa using hx];exact hc
    ·exact h2 x c' q)
   refine⟨cl,?_,a1,fun x c' q=>?_,fun x q=>?_⟩
   ·rw[List.forIn_cons]
    have:cellOf env n=pure c:=by unfold cellOf;rw[hc]
    simp only[beq_self_eq_true,if_true,this,pure_bind]
    exact e
   ·by_cases hx:x=n
    ·subst hx
     exact a2 x c (by simp[List.lookup_cons])
    ·exact a2 x c' (by rw[List.lookup_cons,show (x==n)=false from by simpa using hx];exact q)
   ·rw[List.lookup_cons] at q
    split at q
    ·rename_i hx
     exact a2 x c (by rw[List.lookup_cons,hx])
    ·exact a3 x q
  ·obtain⟨cl,e,a1,a2,a3⟩:=i5 r acc (fun y hy=>h1 y (List.mem_cons_of_mem _ hy)) h2
   refine⟨cl,?_,a1,a2,fun x q=>?_⟩
   ·rw[List.forIn_cons]
    have:((k==NameKind.free)=true)=False:=by simpa using hk
    simp only[this,if_false,pure_bind]
    exact e
   ·rw[List.lookup_cons] at q
    split at q
    ·cases q;exact absurd rfl hk
    ·exact a3 x q
theorem mV{scope:Scope}{env:Env}(h:∀y∈scope.names,y.2= .free→∃c,env.cells.lookup y.1=some c):
 ∃cl,closureFor scope env=pure cl∧(∀x c,cl.lookup x=some c→env.cells.lookup x=some c)∧(∀x,scope.names.lookup x=some .free→∃c,cl.lookup x=some c):=by
 obtain⟨cl,e,a1,_,a3⟩:=i5 (env:=env) scope.names [] h (fun x c q=>by simp at q)
 refine⟨cl,?_,a1,a3⟩
 unfold closureFor
 show (forIn scope.names [] _>>=fun r=>pure r)=_
 rw[bind_pure]
 exact e
def noex{α:Type}:M α→M α
 |some (.ok a)=>some (.ok a)
 |_=>none
def cZ(f:D→M (Option D)):List D→M (List D)
 |[]=>M.ret []
 |d::ds=>f d>>=fun o=>cZ f ds>>=fun r=>M.ret (match o with | some y=>y::r | none=>r)
def NQ(n:Nat):D→M (List D):=fun d=>match n,d with
 |0,d=>M.ret [d]
 |n, .tup ds=>if ds.length=n then M.ret ds else M.stuck
 |_,_=>M.stuck
def fF(n:Nat)(δt:DT)(δe:DE)(ρ:aX):D→M (Option D):=fun d=>
 NQ n d>>=fun ts=>δt (ts.map (fun t=>some (Sl.fz t))++ρ)>>=fun b=>if b then δe (ts.map (fun t=>some (Sl.fz t))++ρ)>>=fun y=>M.ret (some y) else M.ret none
def bT(n:Nat)(δi:DA)(δt:DT)(δe:DE):DE:=fun ρ=>δi ρ>>=fun ds=>noex (cZ (fF n δt δe ρ) ds)>>=fN
def cV:DT:=fun _=>M.ret true
theorem dR(f:D→M (Option D))(d:D)(ds:List D):cZ f (d::ds)=(f d>>=fun o=>cZ f ds>>=fun r=>M.ret (match o with | some y=>y::r | none=>r)):=rfl
theorem vW{f:D→M (Option D)}{ds:List D}{i:Nat}{d:D}{ys R:List D}(hd:ds[i]? =some d)
 (h:cZ f ds=(cZ f (ds.drop i)>>=fun r=>M.ret (ys++r)))(hR:cZ f ds=M.ret R):
 ∃o,f d=M.ret o∧cZ f ds=(cZ f (ds.drop (i+1))>>=fun r=>M.ret ((match o with | some y=>ys++[y] | none=>ys)++r)):=by
 have e:ds.drop i=d::ds.drop (i+1):=by
  obtain⟨hi,e⟩:=List.getElem?_eq_some_iff.mp hd
  rw[List.drop_eq_getElem_cons hi,e]
 rw[e,dR] at h
 have h':=h.symm.trans hR
 obtain⟨r,h1,h2⟩:=fY h'
 obtain⟨o,h3,h4⟩:=fY h1
 refine⟨o,h3,?_⟩
 obtain⟨r',h5,h6⟩:=fY h4
 rw[h5,hR]
 rw[←h2,←fm h6]
 show M.ret _=M.ret _
 cases o with
 |none=>rfl
 |some y=>simp
theorem yR{prog:Program}{w:World}{A:Around}{R:Result→Shared→Prop}{s:Shared}{elt target iter:Expr}{ifs:List Expr}{scope:Scope}{pos:Pos}{it acc:Value}{env:Env}(I:Nat→Shared→Prop)
 (turn:∀n s,I n s→wpAny (model prog w) A (pyNext it) (fun r s₁=>match r with
  |none=>R (.ok .next) s₁
  |some v=>wpAny (model prog w) A (letOwnedTupleGo target it v) (fun _ NO=>wpAny (model prog w) A (assign target env v) (fun _ s₂=>
    wpAny (model prog w) A (forIn ifs true fun c r=>if r=true then do let ok←isTrue c env (eval c env);pure (ForInStep.yield ok) else pure (ForInStep.yield r)) (fun ok s₃=>
     if ok=true then wpAny (model prog w) A (eval elt env) (fun x s₄=>
      wpAny (model prog w) A (call (.builtin "list.append") [acc,x]) (fun _ s₅=>∃m,m<n∧I m s₅) (notedBy (model prog w) A env fun e s'=>R (.error e) s') s₄) (notedBy (model prog w) A env fun e s'=>R (.error e) s') s₃
     else∃m,m<n∧I m s₃) (notedBy (model prog w) A env fun e s'=>R (.error e) s') s₂) (notedBy (model prog w) A env fun e s'=>R (.error e) s') NO) (notedBy (model prog w) A env fun e s'=>R (.error e) s') s₁) (notedBy (model prog w) A env fun e s'=>R (.error e) s') s)
 (n:Nat) (h:I n s):
 codeAny (model prog w) A (.compLoop (.ListComp elt [⟨target,iter,ifs,0⟩] scope pos) 0 it acc env) R s:=by
 refine codeAny_loop rfl I (fun n s hI=>?_) n h
 show wpAny _ A ((compTurn (.ListComp elt [⟨target,iter,ifs,0⟩] scope pos) 0 it acc env).onRaise (fun x=>do noteFrame x env;theTreesLotGoes x)) _ _ s
 refine wpAny_noted ?_
 rw[compTurn_list]
 refine wpAny_bind (wpAny_standAt (wpAny_bind (wpAny_mono (turn n s hI) (fun r s₁ h₁=>?_) fun _ _ h'=>h')))
 cases r with
 |none=>exact wpAny_pure h₁
 |some v=>
  refine wpAny_bind (wpAny_mono h₁ (fun _ NO h₁=>?_) fun _ _ h'=>h')
  refine wpAny_bind (wpAny_mono h₁ (fun _ s₂ h₂=>wpAny_bind (wpAny_mono h₂ (fun ok s₃ h₃=>?_) fun _ _ h'=>h')) fun _ _ h'=>h')
  cases ok with
  |false=>exact wpAny_pure ⟨rfl,h₃⟩
  |true=>
   exact wpAny_bind (wpAny_bind (wpAny_mono h₃ (fun x s₄ h₄=>wpAny_bind (wpAny_mono h₄ (fun _ s₅ h₅=>wpAny_pure (wpAny_pure ⟨rfl,h₅⟩)) fun _ _ h'=>h')) fun _ _ h'=>h'))
def Ag(X:Cx)(tg:Expr)(n:Nat)(σ:St):Prop:=∀(pins:List (Addr×Obj)) (s:Shared) (σ':St) (F H:Hp) (d:D) (ts:List D) (v:V) (u:Value),Inv X pins σ' H s→Same F H→σ'.drop (max n 1)=σ→RelV v u→Den X.K F d v→NQ n d=M.ret ts→
 wpAny (model X.prog X.w) X.A (assign tg X.env u) (fun _ s'=>∃vs,Inv X pins (vs.map some++σ) H s'∧DenL X.K F ts vs) X.xe s
def ki(X:Cx)(ifs:List Expr)(δt:DT):Prop:=∀(pins:List (Addr×Obj)) (s:Shared) (σ:St) (H:Hp) (Q:Bool→Hp→Prop),Inv X pins σ H s→Mz X.K (fun _ _=>False) δt σ H Q→
 wpAny (model X.prog X.w) X.A (forIn ifs true fun c r=>if r=true then do let ok←isTrue c X.env (eval c X.env);pure (ForInStep.yield ok) else pure (ForInStep.yield r)) (TP X pins σ Q) X.xe s
theorem dJ{X:Cx}:ki X [] cV:=fun pins s σ H Q I ⟨F,ρ,S,w⟩=>wpAny_tests_nil ⟨H,I,w H F (Ext.refl S.fh)⟩
theorem CU{X:Cx}{c:Expr}{δ:DT}(h:o6 X (fun _ _=>False) c δ):ki X [c] δ:=fun pins s σ H Q I w=>wpAny_tests_one (h pins s σ H Q I w)
theorem StE.cons{K:W.Frag}{F H:Hp}{σ:St}{ρ:aX}{ts:List D}{vs:List V}(s:StE K F H σ ρ)(h:DenL K F ts vs):StE K F H (vs.map some++σ) (ts.map (fun t=>some (Sl.fz t))++ρ):=by
 refine⟨s.fh,fun i sl e=>?_⟩
 have hl:=h.len
 by_cases hi:i<ts.length
 ·rw[List.getElem?_append_left (by simpa using hi),List.getElem?_map] at e
  cases q:ts[i]? with
  |none=>rw[q] at e;cases e
  |some t=>
   rw[q] at e
   cases e
   obtain⟨v,e1,e2⟩:=h.get q
   exact⟨v,by rw[List.getElem?_append_left (by simp;omega),List.getElem?_map,e1];rfl,e2⟩
 ·rw[List.getElem?_append_right (by simpa using hi)] at e
  obtain⟨v,e1,e2⟩:=s.den _ _ e
  refine⟨v,?_,e2⟩
  rw[List.getElem?_append_right (by simp;omega)]
  simpa[hl] using e1
theorem WPB.take{Xw:Nat→Hp→Prop}{F H:Hp}{b:Bool}:WPB Xw F H (M.ret b) fun b' H'=>b'=b∧∃F',Ext F H F' H':=fun H' F' e=>⟨rfl,F',e⟩
theorem WP.take{K:W.Frag}{Xw:Nat→Hp→Prop}{F H:Hp}{d:D}:WP K Xw F H (M.ret d) fun v H'=>∃F',Ext F H F' H'∧Den K F' d v:=fun v H' F' e q=>⟨F',e,q⟩
def kW(env:Env)(p:Str×NameKind):Str×NameKind:=if (p.2== .free&&env.scope.kind== .function&&env.kindOf p.1==some .cell) then(p.1, .cell) else(p.1,p.2)
theorem ft(scope:Scope)(env:Env):(relabel scope env).names=scope.names.map (kW env):=rfl
theorem Cq(env:Env)(p:Str×NameKind):(kW env p).1=p.1:=by unfold kW;split<;>rfl
theorem gg(env:Env)(x:Str):∀ns:List (Str×NameKind),(ns.map (kW env)).lookup x=(ns.lookup x).map fun k=>(kW env (x,k)).2
 |[]=>rfl
 |(m,k)::r=>by
  rw[List.map_cons,List.lookup_cons,List.lookup_cons]
  have e:kW env (m,k)=(m,(kW env (m,k)).2):=Prod.ext (Cq env (m,k)) rfl
  rw[e]
  dsimp only
  by_cases hx:(x==m)=true
  ·have hm:x=m:=by simpa using hx
   subst hm
   rw[hx]
   rfl
  ·have hx:(x==m)=false:=by simpa using hx
   rw[hx]
   exact gg env x r
theorem sO{scope:Scope}{env:Env}{x:Str}(h:scope.names.lookup x=none):(relabel scope env).names.lookup x=none:=by
 rw[ft,gg,h];rfl
theorem sN{scope:Scope}{env:Env}{x:Str}(hc:∀y∈scope.names,y.2≠ .cell)(h:(relabel scope env).names.lookup x=some .cell∨(relabel scope env).names.lookup x=some .free):scope.names.lookup x=some .free:=by
 rw[ft,gg] at h
 cases q:scope.names.lookup x with
 |none=>rw[q] at h;rcases h with h | h<;>cases h
 |some k=>
  rw[q] at h
  have hk:k≠ .cell:=hc _ (PySem.mem_of_lookup q)
  have h:(kW env (x,k)).2= .cell∨(kW env (x,k)).2= .free:=by simpa using h
  by_cases hf:k= .free
  ·rw[hf]
  ·have:(kW env (x,k)).2=k:=by
    unfold kW
    rw[if_neg]
    simp[hf]
   rw[this] at h
   rcases h with h | h
   ·exact absurd h hk
   ·exact absurd h hf
theorem kX{scope:Scope}{env:Env}{x:Str}(h:scope.names.lookup x=some .free):¬(relabel scope env).names.lookup x=some .local:=by
 rw[ft,gg,h]
 intro z
 have z:(kW env (x, .free)).2= .local:=by simpa using z
 unfold kW at z
 split at z<;>cases z
structure BlockEnd (X:Cx) (pins:List (Addr×Obj)) (C:Addr) (H':Hp) (s1:Shared):Prop where
 ns:∃m,s1.heap.Ns C m
 free:H' C=none
 nl:C≠X.env.locals
 nw:X.s₀.heap.objs.size≤C
 nc:∀x c,X.env.cells.lookup x=some c→c≠C
 np:∀p∈X.pn++pins,p.1≠C
theorem tX{X:Cx}{Xw:Nat→Hp→Prop}{elt iter tg:Expr}{ifs:List Expr}{scope:Scope}{pos:Pos}{tn:List Str}{n:Nat}{δi:DA}{δt:DT}{δe:DE}{cl:List (Str×Addr)}{pins:List (Addr×Obj)}{s:Shared}{σ:St}{H F:Hp}{ρ:aX}{Q:VK}{RR:Value→Addr→Result→Shared→Prop}
 (sc:CompSc X scope tn)(hn:tn.length=max n 1)(hc:X.calm=true)(hi:xr X Xw tg iter δi)
 (hg:∀pins cl C fp s₂ H σ,Ag (iQ X scope tn pins cl C fp s₂ H) tg n σ)
 (ht:∀pins cl C fp s₂ H,ki (iQ X scope tn pins cl C fp s₂ H) ifs δt)
 (he:∀pins cl C fp s₂ H,PD (iQ X scope tn pins cl C fp s₂ H) (fun _ _=>False) elt δe)
 (I:Inv X pins σ H s)(S:StE X.K F H σ ρ)(w:WP X.K Xw F H (bT n δi δt δe ρ) Q)
 (AA:∀x c,cl.lookup x=some c→X.env.cells.lookup x=some c)(HW:∀x,scope.names.lookup x=some .free→∃c,cl.lookup x=some c)
 (Oh:∀(s1:Shared) (C D:Addr) (H':Hp),Inv X pins σ H' s1→Q (.ref D) H'→BlockEnd X pins C H' s1→RR (.ref D) C (.ok .next) s1):
 wpAny (model X.prog X.w) X.A (eval iter X.env) (fun x s₁=>wpAny (model X.prog X.w) X.A (pyIter x) (fun it s₂=>wpAny (model X.prog X.w) X.A (newList []) (fun acc s₃=>
  wpAny (model X.prog X.w) X.A (newFunctionEnv scope X.env.globals cl [] X.env.qual none .none (some X.env)) (fun Iv s₄=>
   codeAny (model X.prog X.w) X.A (.compStart (.ListComp elt [⟨tg,iter,ifs,0⟩] scope pos) 0 it acc {Iv with scope:=relabel scope X.env}) (RR acc Iv.locals) s₄) X.xe s₃) X.xe s₂) X.xe s₁) X.xe s:=by
 refine bS (hi pins s σ H (fun J H2=>∃F2 ds,Ext F H F2 H2∧ItD X.K F2 J ds∧WP X.K Xw F2 H2 (noex (cZ (fF n δt δe ρ) ds)>>=fN) Q) I ⟨F,ρ,S,?_⟩) fun xv s₁ h₁=>bS h₁ fun it s₂ h₂=>?_
 ·unfold bT at w
  rcases(δi ρ).cs with hq | ⟨m,hq⟩ | ⟨ds,hq⟩
  ·rw[hq] at w;exact w.elim
  ·rw[hq] at w⊢;exact w
  ·rw[hq] at w⊢;exact fun J H' F' e q=>⟨F',ds,e,q,WP.ext e w⟩
 obtain⟨ia,fp,NR,J,H2,rfl,I2,T,xf,f2,F2,ds,e2,NC,w2⟩:=h₂
 obtain⟨R,hR,M9,w2⟩:∃R,cZ (fF n δt δe ρ) ds=M.ret R∧R.length≤lim∧WP X.K Xw F2 H2 (M.ret (.lst R)) Q:=by
  rcases(cZ (fF n δt δe ρ) ds).cs with hq | ⟨m,hq⟩ | ⟨R,hq⟩
  ·rw[hq] at w2;exact w2.elim
  ·rw[hq] at w2;exact w2.elim
  ·rw[hq] at w2
   obtain⟨h1,h2⟩:=wu (X:=X) (f:=D.lst) (show WP X.K Xw F2 H2 (fN R) Q from w2)
   exact⟨R,hq,h1,h2⟩
 refine wpAny_newObj_type (wpAny_newFunctionEnv sc.nocell (by intro y hy;simp at hy) (fun h₁ Gx DM=>?_) sc.kind)
 dsimp only at Gx DM⊢
 generalize Lk:s₂.heap.push {cls:= .type "list",dict:=none,data:= .seq ([]:List Value).toArray}=HL at Gx DM⊢
 have hC:HL.objs.size=s₂.heap.objs.size+1:=by rw[←Lk,Heap.size_push]
 have yX:s₂.heap.objs.size<HL.objs.size:=by rw[hC];exact Nat.lt_succ_self _
 have old:∀b o,s₂.heap.get? b=some o→h₁.get? b=some o:=fun b o e=>DM.extBut b o (Nat.ne_of_lt (Nat.lt_trans (Heap.lt_size e) yX)) (Heap.get?_push_of_some _ (Lk▸Heap.get?_push_of_some _ e))
 have pz:h₁.get? s₂.heap.objs.size=some {cls:= .type "list",data:= .seq ([]:List Value).toArray}:=DM.extBut _ _ (Nat.ne_of_lt yX) (Heap.get?_push_of_some _ (Lk▸Heap.get?_push_size _ rfl))
 have nD:H2 s₂.heap.objs.size=none:=I2.hok.fresh (Nat.le_refl _)
 have nC:H2 HL.objs.size=none:=I2.hok.fresh (Nat.le_of_lt yX)
 have gC:s₂.heap.get? HL.objs.size=none:=Heap.get?_none_of_le (Nat.le_of_lt yX)
 have fl:∀b∈fp,b<s₂.heap.objs.size:=fun b hb=>by
  obtain⟨o,e,_⟩:=T.obj 0 _ xf b hb
  exact Heap.lt_size e
 generalize ug:iQ X scope tn pins cl HL.objs.size fp s₂ H2=X'
 have NL:X'.Ok:=by
  subst ug
  refine⟨I2.ok.mod,sc.kind,I2.ok.glob,I2.ok.blt,Nat.le_of_lt yX,fun x y c h1 h2=>I2.ok.inj x y c (AA _ _ h1) (AA _ _ h2),fun x hx=>?_,fun _ _ h=>(by cases h),I2.ok.hd,I2.ok.frames, .inl rfl,
   fun b hb=>⟨Nat.ne_of_lt (Nat.lt_trans (fl b hb) yX),fun x c h=>(f2 b hb).2.2.2.2.1 x c (AA _ _ h)⟩,I2.bs,Nat.le_trans I2.ok.bsz I2.sz,fun b o e hb=>?_,fun b hb z=>?_,I2.stack,I2.stkFree⟩
  ·have hx:(relabel scope X.env).names.lookup x=some .cell∨(relabel scope X.env).names.lookup x=some .free:=hx
   exact HW x (sN sc.nocell hx)
  ·rcases(f2 b hb).2.2.2.1 with z | z
   ·exact I2.ok.noex b o e z
   ·exact absurd (Nat.lt_of_lt_of_le (Heap.lt_size (I2.ok.bs b o e).1) z) (Nat.lt_irrefl _)
  ·rcases List.mem_cons.mp (I2.stkSub b z) with q | q
   ·exact(f2 b hb).2.1 q
   ·exact(f2 b hb).2.2.1 q
 have Mf:∀b o,H2 b=some o→b≠s₂.heap.objs.size:=fun b o e=>ba e nD
 have F_:∀{H':Hp},(∀b∈fp,H' b=none)→∀b∈fp,o_ X' [] H' b:=fun OW b hb=>by
  subst ug
  refine⟨OW b hb,Nat.ne_of_lt (Nat.lt_trans (fl b hb) yX),fun z=>NL.exfs b hb z, .inl hb,fun x c h=>(f2 b hb).2.2.2.2.1 x c (AA _ _ h),fun p hp=>?_⟩
  rw[List.append_nil] at hp
  exact(f2 b hb).2.2.2.2.2 p hp
 have I0:Inv X' [] (List.replicate (max n 1) none++σ) (upd H2 s₂.heap.objs.size (.lst [])) {s₂ with heap:=h₁,toks:=s₂.toks+([]:List (Str×Value)).length}:=by
  subst ug
  have LP:HOk X.prog X.w (upd H2 s₂.heap.objs.size (.lst [])) h₁:=I2.hok.laid old (Nat.le_refl _) ⟨Nat.zero_le _,[],_, .nil,pz⟩
  refine⟨NL,rfl,I2.bare,Un.laid old (Nat.le_refl _) nD,⟨_,Gx,fun i x v h1 h2 h3=>?_⟩,fun x c h=>?_,?_,fun x c h=>?_,fun p hp=>?_,LP,?_⟩
  ·by_cases hi:i<max n 1
   ·rw[List.getElem?_append_left (by simpa using hi),List.getElem?_replicate,if_pos hi] at h2
    cases h2
   ·have pA:tn.length≤i:=by omega
    have h1:(tn++dz tn X.N)[i]? =some x:=h1
    rw[List.getElem?_append_right pA] at h1
    rw[List.getElem?_append_right (by simpa using hi),List.length_replicate,←hn] at h2
    have hN:∃y,X.N[i - tn.length]? =some y∧(x,y)∈(dz tn X.N).zip X.N:=by
     have d5:=(List.getElem?_eq_some_iff.mp h1).1
     have Jd:i - tn.length<X.N.length:=by simpa[dz] using d5
     refine⟨X.N[i - tn.length],List.getElem?_eq_getElem Jd,?_⟩
     refine List.mem_iff_getElem?.mpr ⟨i - tn.length,?_⟩
     rw[List.getElem?_zip_eq_some]
     exact⟨h1,List.getElem?_eq_getElem Jd⟩
    obtain⟨y,hy,hm⟩:=hN
    have hV:(relabel scope X.env).names.lookup x=some .local∨(relabel scope X.env).names.lookup x=some .cell∨(relabel scope X.env).names.lookup x=some .free:=h3
    rcases sc.vis _ hm with nj | ⟨L6,Fu⟩
    ·have nj:scope.names.lookup x=none:=nj
     have:(relabel scope X.env).names.lookup x=none:=sO nj
     rw[this] at hV
     rcases hV with z | z | z<;>cases z
    ·have L6:x=y:=L6
     subst L6
     have Fu:scope.names.lookup x=some .free:=Fu
     have hk:=sc.frees (x, .free) (PySem.mem_of_lookup Fu) rfl
     obtain⟨m,Gs,Gp⟩:=I2.loc
     obtain⟨u,ru,lk⟩:=Gp _ x v hy h2 (by rcases hk with z | z;exact .inr (.inl z);exact .inr (.inr z))
     refine⟨u,ru, .inr ⟨?_,?_⟩⟩
     ·rcases hV with z | z | z
      ·exact absurd z (kX Fu)
      ·exact .inl z
      ·exact .inr z
     ·rcases lk with⟨z,_⟩ | ⟨_,c,Ot,Gj⟩
      ·rcases hk with q | q
       ·rw[show X.env.kindOf x=some .local from z] at q;cases q
       ·rw[show X.env.kindOf x=some .local from z] at q;cases q
      ·obtain⟨c',Fq⟩:=HW x Fu
       have:=AA _ _ Fq
       rw[Ot] at this
       cases this
       obtain⟨o,ho,hd⟩:=Gj
       exact⟨c,Fq,o,old _ _ ho,hd⟩
  ·obtain⟨v,o,ho,hd⟩:=I2.cell x c (AA _ _ h)
   exact⟨v,o,old _ _ ho,hd⟩
  ·show upd H2 s₂.heap.objs.size (.lst []) HL.objs.size=none
   rw[av (Nat.ne_of_gt yX)]
   exact nC
  ·have IV:=AA _ _ h
   obtain⟨v,q⟩:=I2.cell x c IV
   rw[av (Nat.ne_of_lt q.lt)]
   exact I2.freeC x c IV
  ·rw[List.append_nil] at hp
   obtain⟨e,nn,ne,nf,d⟩:=I2.pin p hp
   have d5:=Heap.lt_size e
   refine⟨old _ _ e,by rw[av (Nat.ne_of_lt d5)];exact nn,Nat.ne_of_lt (Nat.lt_trans d5 yX),fun z=>?_,d⟩
   rcases List.mem_cons.mp (I2.stkSub p.1 z) with q | q
   ·exact ne q
   ·exact nf q
  ·show (List.replicate (max n 1) none++σ).length=(tn++dz tn X.N).length
   rw[List.length_append,List.length_append,List.length_replicate,hn,show (dz tn X.N).length=X.N.length from by simp[dz],I2.len]
 have loop:∀s₃:Shared,s₃={s₂ with heap:=h₁,toks:=s₂.toks+([]:List (Str×Value)).length}→
  codeAny (model X.prog X.w) X.A (.compLoop (.ListComp elt [⟨tg,iter,ifs,0⟩] scope pos) 0 (.ref ia) (.ref s₂.heap.objs.size) (compEnvC scope cl HL.objs.size X.env))
   (RR (.ref s₂.heap.objs.size) HL.objs.size) s₃:=by
  intro s₃ O5
  have AO:X'.env=compEnvC scope cl HL.objs.size X.env:=by subst ug;rfl
  have hA:X'.A=X.A:=by subst ug;rfl
  have hP:X'.prog=X.prog:=by subst ug;rfl
  have hw:X'.w=X.w:=by subst ug;rfl
  have hK:X'.K=X.K:=by subst ug;rfl
  have Pc:X'.xe=fun _ _=>False:=by subst ug;rfl
  have Fs:X'.calm=true:=by subst ug;exact hc
  have OA:X'.fs=mG X.stack:=by subst ug;rfl
  have hex:X'.ex=fp:=by subst ug;rfl
  have Od:X'.H₀=H2:=by subst ug;rfl
  have Nv:X'.s₀=s₂:=by subst ug;rfl
  have pass:∀{α:Type}{t:Sem α}{P:α→Shared→Prop}{E':Value→Shared→Prop}{s:Shared},wpAny (model X'.prog X'.w) X'.A t P X'.xe s→wpAny (model X.prog X.w) X.A t P E' s:=fun {α t P E' s} h=>by
   rw[hP,hw,hA,Pc] at h
   exact wpAny_mono h (fun _ _ q=>q) fun _ _ q=>q.elim
  refine yR (fun m s'=>∃(i:Nat) (F' H':Hp) (vs:List V) (ys:List D) (σt:St),m=ds.length - i∧i≤ds.length∧σt.length=max n 1∧Inv X' [] (σt++σ) H' s'∧NR i s'.heap∧(∀b∈fp,H' b=none)∧Ext F2 H2 F' H'∧
   H' s₂.heap.objs.size=some (.lst vs)∧F' s₂.heap.objs.size=none∧DenL X.K F' ys vs∧cZ (fF n δt δe ρ) ds=(cZ (fF n δt δe ρ) (ds.drop i)>>=fun r=>M.ret (ys++r))) ?_ ds.length ?_
  ·rintro m s' ⟨i,F',H',vs,ys,σt,rfl,LD,Pe,I',oR,M0,v5,hD,fD,KJ,heq⟩
   by_cases d5:i<ds.length
   ·
    obtain⟨d,hd⟩:∃d,ds[i]? =some d:=⟨_,List.getElem?_eq_getElem d5⟩
    obtain⟨LA,GG⟩:=(NC F' H' i v5.ff v5.fh).1 d hd
    obtain⟨o,ho,IZ⟩:=vW hd heq hR
    have L7:ys.length≤lim:=by
     rw[heq] at hR
     obtain⟨r,_,hr⟩:=fY hR
     rw[←fm hr,List.length_append] at M9
     omega
    obtain⟨ts,O9,ho⟩:=fY ho
    refine pass ?_
    rw[hP,hw]
    refine bS (T.item X' hP hw hK Fs i [] s' (σt++σ) H' X'.xe I' (F_ M0) oR LA) ?_
    rintro r s1 ⟨u,rfl,h1⟩
    refine pass ?_
    rw[hP,hw]
    refine bS h1 ?_
    rintro _ s2 ⟨x,H3,I3,rx,y3,Ig,Ks⟩
    obtain⟨F3,C_,q3⟩:=GG x H3 y3
    have M6:H3 s₂.heap.objs.size=some (.lst vs):=C_.hh _ _ hD
    have N6:F3 s₂.heap.objs.size=none:=by rw[C_.old hD (fun _ z=>nomatch z)];exact fD
    have I3':=I3.pinned (F_ Ks) (T.obj _ _ Ig)
    have xX:∀{σ7:St}{H7:Hp}{s7:Shared},Inv X' ([]++oA fp s2.heap) σ7 H7 s7→NR (i+1) s7.heap∧∀b∈fp,H7 b=none:=fun {σ7 H7 s7} I7=>
     ⟨T.keep _ _ _ Ig fun b hb o e=>(I7.pin (b,o) (List.mem_append_right _ (List.mem_append_right _ (gh hb e)))).1,fun b hb=>by
      obtain⟨o,e,_⟩:=T.obj _ _ Ig b hb
      exact(I7.pin (b,o) (List.mem_append_right _ (List.mem_append_right _ (gh hb e)))).2.1⟩
    have OC:Ag X' tg n σ:=by subst ug;exact hg _ _ _ _ _ _ _
    have O7:ki X' ifs δt:=by subst ug;exact ht _ _ _ _ _ _
    have Ow:PD X' (fun _ _=>False) elt δe:=by subst ug;exact he _ _ _ _ _ _
    refine pass ?_
    rw[←AO]
    refine bS (OC _ s2 (σt++σ) F3 H3 d ts x u I3' C_.fh (by rw[←Pe];simp) rx (by rw[hK];exact q3) O9) ?_
    rintro _ s4 ⟨vt,I4,dt⟩
    rw[hK] at dt
    have S4:StE X.K F3 H3 (vt.map some++σ) (ts.map (fun t=>some (Sl.fz t))++ρ):=StE.cons ((S.ext e2).ext (v5.trans C_)) dt
    obtain⟨b,hb,ho⟩:=fY ho
    refine pass ?_
    try rw[←AO]
    refine bS (O7 _ s4 _ H3 (fun b' H5=>b'=b∧∃F5,Ext F3 H3 F5 H5) I4 ⟨F3,_,by rw[hK];exact S4,by rw[hb];exact WPB.take⟩) ?_
    rintro b' s5 ⟨H5,I5,rfl,F5,F0⟩
    have Lj:H5 s₂.heap.objs.size=some (.lst vs):=F0.hh _ _ M6
    have MX:F5 s₂.heap.objs.size=none:=by rw[F0.old M6 (fun _ z=>nomatch z)];exact N6
    cases b' with
    |false=>
     rw[if_neg Bool.false_ne_true] at ho⊢
     obtain rfl:=fm ho
     refine⟨ds.length - (i+1),by omega,i+1,F5,H5,vs,ys,vt.map some,rfl,d5,?_,I5.unpinned,(xX I5).1,(xX I5).2,v5.trans (C_.trans F0),Lj,MX,DenL.mono (C_.trans F0).ff KJ,IZ⟩
     have h1:=I5.len
     have h2:=I3.len
     rw[List.length_append] at h1 h2
     omega
    |true=>
     rw[if_pos rfl] at ho⊢
     obtain⟨yv,hy,ho⟩:=fY ho
     obtain rfl:=fm ho
     refine pass ?_
     try rw[←AO]
     refine bS (Ow _ s5 _ H5 (fun v H6=>∃F6,Ext F5 H5 F6 H6∧Den X.K F6 yv v) I5 ⟨F5,_,by rw[hK];exact S4.ext F0,by rw[hy,hK];exact WP.take⟩) ?_
     rintro xv s6 ⟨v,H6,I6,rv,F6,Kr,qv⟩
     have Oc:H6 s₂.heap.objs.size=some (.lst vs):=Kr.hh _ _ Lj
     have MY:F6 s₂.heap.objs.size=none:=by rw[Kr.old Lj (fun _ z=>nomatch z)];exact MX
     have Pa:vs.length<sizeLine:=by
      have:=KJ.len
      have:=dB
      omega
     refine pass ?_
     refine bS (qx _ s6 _ H6 (.ref s₂.heap.objs.size) [v] (.ref s₂.heap.objs.size) [xv] (fun _ H7=>H7=upd H6 s₂.heap.objs.size (.lst (vs++[v]))) I6 rfl (.cons rv .nil) ⟨_,vs,v,rfl,rfl,Oc,Pa,rfl⟩) ?_
     rintro _ s7 ⟨_,H7,I7,_,rfl⟩
     have N5:Ext F2 H2 F6 (upd H6 s₂.heap.objs.size (.lst (vs++[v]))):=by
      have e:=v5.trans (C_.trans (F0.trans Kr))
      refine⟨fun b u q=>?_,e.ff,fun b u q=>?_,e.new⟩
      ·rw[av (Mf b u q)];exact e.hh b u q
      ·rw[av (fun z=>by rw[z,MY] at q;cases q)];exact e.fh b u q
     refine⟨ds.length - (i+1),by omega,i+1,F6,_,vs++[v],ys++[yv],vt.map some,rfl,d5,?_,I7.unpinned,(xX I7).1,(xX I7).2,N5,aF,MY,
      DenL.append (DenL.mono (C_.trans (F0.trans Kr)).ff KJ) (.cons qv .nil),IZ⟩
     have h1:=I5.len
     have h2:=I3.len
     rw[List.length_append] at h1 h2
     omega
   ·
    have hi:i=ds.length:=by omega
    subst hi
    rw[List.drop_length] at heq
    have Oi:R=ys:=by
     rw[heq] at hR
     have hR:M.ret (ys++[])=M.ret R:=hR
     rw[←fm hR,List.append_nil]
    subst Oi
    refine pass ?_
    rw[hP,hw]
    refine bS (T.done X' hP hw hK Fs ds.length [] s' (σt++σ) H' X'.xe I' (F_ M0) oR ((NC F' H' ds.length v5.ff v5.fh).2 (Nat.le_refl _))) ?_
    rintro r s1 ⟨rfl,I1⟩
    obtain⟨m,hm,_⟩:=I1.loc
    rw[AO] at hm
    have Ob:H' HL.objs.size=none:=by
     have:=I1.free
     rw[AO] at this
     exact this
    have u:=I1.base
    rw[OA,hex,Od,Nv] at u
    have uh:s1.os=s₂.os:=by have:=I1.os;rw[Nv] at this;exact this
    have I8:=I1.hok
    rw[hP,hw] at I8
    refine Oh s1 HL.objs.size s₂.heap.objs.size H' (I2.call' (s':=s1) (ch:=fp) uh u I8 I1.bare (fun b hb=>⟨(f2 b hb).2.2.2.1,(f2 b hb).2.1,(f2 b hb).2.2.2.2.1,(f2 b hb).2.2.2.2.2⟩)) ?_
     ⟨⟨m,hm⟩,Ob,Nat.ne_of_gt (Nat.lt_trans I2.lt yX),Nat.le_trans I2.sz (Nat.le_of_lt yX),fun x c q z=>?_,fun p hp z=>?_⟩
    rotate_left
    ·obtain⟨v,q'⟩:=I2.cell x c q
     exact absurd (Nat.lt_trans q'.lt yX) (by rw[z];exact Nat.lt_irrefl _)
    ·exact absurd (Nat.lt_trans (Heap.lt_size (I2.pin p hp).1) yX) (by rw[z];exact Nat.lt_irrefl _)
    refine WP.fin w2 (F':=upd F' s₂.heap.objs.size (.lst vs)) ⟨v5.hh,fun b u q=>?_,fun b u q=>?_,fun a ha=>?_⟩ ⟨_,vs,rfl,aF,DenL.mono (fun b u q=>?_) KJ,M9⟩
    ·rw[av (fun z=>by have:=v5.ff b u q;rw[z,fD] at this;cases this)];exact v5.ff b u q
    ·by_cases z:b=s₂.heap.objs.size
     ·rw[z,aF] at q;rw[z,hD];exact q
     ·rw[av z] at q;exact v5.fh b u q
    ·rcases v5.new a ha with q | q
     ·exact .inl (by rw[av (fun z=>ha (by rw[z];exact nD))];exact q)
     ·exact .inr q
    ·rw[av (fun z=>by rw[z,fD] at q;cases q)];exact q
  ·rw[O5]
   refine⟨0,F2,_,[],[],List.replicate (max n 1) none,by simp,Nat.zero_le _,by simp,I0,T.keep _ _ _ xf (fun b hb o e=>old b o e),fun b hb=>?_,⟨fun b u q=>?_,Same.refl _,fun b u q=>?_,fun _ _=> .inl rfl⟩,aF,Same.free e2.fh nD,rfl,?_⟩
   ·rw[av (Nat.ne_of_lt (fl b hb))];exact(f2 b hb).1
   ·rw[av (Mf b u q)];exact q
   ·rw[av (Mf b u (e2.fh b u q))];exact e2.fh b u q
   ·rw[List.drop_zero]
    rcases(cZ (fF n δt δe ρ) ds).cs with hq | ⟨m,hq⟩ | ⟨R,hq⟩<;>rw[hq]<;>rfl
 exact codeAny_compStart_list (loop _ rfl) (T.self X.A 0 _ _ _ (T.keep _ _ _ xf (fun b hb o e=>old b o e)) (loop _ rfl))
theorem Inv.block{X:Cx}{pins:List (Addr×Obj)}{σ:St}{H':Hp}{s1:Shared}{C:Addr}{h':Heap}(I:Inv X pins σ H' s1)(b:BlockEnd X pins C H' s1)(xR:Heap.SameBut C s1.heap h'):Inv X pins σ H' {s1 with heap:=h'}:=
 I.turned (t':=s1.toks) (fun a o ha e=>(xR.2 a ha).trans e) b.free b.nl (.inr b.nw) b.nc b.np
section
variable{X:Cx}{Xw:Nat→Hp→Prop}{elt iter tg:Expr}{ifs:List Expr}{scope:Scope}{pos:Pos}{tn:List Str}{n:Nat}{δi:DA}{δt:DT}{δe:DE}
theorem eC(sc:CompSc X scope tn)(hn:tn.length=max n 1)(hc:X.calm=true)(hi:xr X Xw tg iter δi)
 (hg:∀pins cl C fp s₂ H σ,Ag (iQ X scope tn pins cl C fp s₂ H) tg n σ)
 (ht:∀pins cl C fp s₂ H,ki (iQ X scope tn pins cl C fp s₂ H) ifs δt)
 (he:∀pins cl C fp s₂ H,PD (iQ X scope tn pins cl C fp s₂ H) (fun _ _=>False) elt δe)
 (hs:∀x,foldedSetIterable iter X.env x=pure x:=by intro _;rfl):
 PD X Xw (.ListComp elt [⟨tg,iter,ifs,0⟩] scope pos) (bT n δi δt δe):=by
 intro pins s σ H Q I ⟨F,ρ,S,w⟩
 obtain⟨cl,A2,AA,HW⟩:=mV (scope:=scope) (env:=X.env) fun y hy hf=>I.ok.has y.1 (sc.frees y hy hf)
 rw[eval_ListComp]
 refine wpAny_comprehension_free (use:=none) rfl hs A2 sc.kind sc.names (tX (RR:=fun acc C=>compPost (model X.prog X.w) X.A X.xe none (EP X pins σ Q) acc C) sc hn hc hi hg ht he I S w AA HW fun s1 C D H' I1 q b=>?_)
 obtain⟨m,hm⟩:=b.ns
 exact⟨m,hm,fun h' xR=>⟨.ref D,H',Inv.block I1 b xR,rfl,q⟩⟩
end
inductive Out where
 |nx (ρ:aX) | rt (d:D)
abbrev DS:=aX→M Out
structure StOk (K:W.Frag) (F₀ H₀ F H:Hp) (σ:St) (ρ:aX):Prop where
 ext:Ext F₀ H₀ F H
 st:StE K F H σ ρ
 len:ρ.length=σ.length
 own:∀(i:Nat) (c:C) (a:Addr),ρ[i]? =some (some (.ow c))→σ[i]? =some (some (.ref a))→H₀ a=none
 sep:∀(i j:Nat) (c c':C) (a:Addr),ρ[i]? =some (some (.ow c))→ρ[j]? =some (some (.ow c'))→σ[i]? =some (some (.ref a))→σ[j]? =some (some (.ref a))→i=j
def WPS(K:W.Frag)(Xw:Nat→Hp→Prop)(F₀ H₀:Hp)(m:M Out)(Dn:Ends):Prop:=
 match m with
 |none=>False
 |some (.ok (.nx ρ))=>∀σ F H,StOk K F₀ H₀ F H σ ρ→Dn.nx σ H
 |some (.ok (.rt d))=>∀v F H,Ext F₀ H₀ F H→Den K F d v→Dn.rt v H
 |some (.ex n)=>∀F H,Ext F₀ H₀ F H→Xw n H
def tS(K:W.Frag)(Xw:Nat→Hp→Prop)(F₀ H₀:Hp)(τ:DS):TS:=fun Dn σ H=>∃F ρ,StOk K F₀ H₀ F H σ ρ∧WPS K Xw F₀ H₀ (τ ρ) Dn
def iL(X:Cx)(Xw:Nat→Hp→Prop)(st:Stmt)(τ:DS):Prop:=∀F₀ H₀,PS X st (tS X.K Xw F₀ H₀ τ)
def PSDs(X:Cx)(Xw:Nat→Hp→Prop)(st:List Stmt)(τ:DS):Prop:=∀F₀ H₀,PSs X st (tS X.K Xw F₀ H₀ τ)
theorem PS.weak{X:Cx}{st:Stmt}{t t':TS}(h:PS X st t)(k:∀D σ H,t' D σ H→t D σ H):PS X st t':=fun pins s σ H D I w=>h pins s σ H D I (k D σ H w)
theorem PSs.weak{X:Cx}{st:List Stmt}{t t':TS}(h:PSs X st t)(k:∀D σ H,t' D σ H→t D σ H):PSs X st t':=fun pins s σ H D I w=>h pins s σ H D I (k D σ H w)
section
variable{K:W.Frag}{Xw:Nat→Hp→Prop}{F₀ H₀ F H F' H':Hp}{σ:St}{ρ:aX}
theorem StOk.ext'(s:StOk K F₀ H₀ F H σ ρ)(e:Ext F H F' H'):StOk K F₀ H₀ F' H' σ ρ:=⟨s.ext.trans e,s.st.ext e,s.len,s.own,s.sep⟩
theorem StOk.set(s:StOk K F₀ H₀ F H σ ρ){i:Nat}{d:D}{v:V}(h:Den K F d v):StOk K F₀ H₀ F H (σ.set i (some v)) (ρ.set i (some (.fz d))):=by
 have hl:=s.len
 have get:∀(j:Nat) (sl:Sl),(ρ.set i (some (.fz d)))[j]? =some (some sl)→(j=i∧i<ρ.length∧sl= .fz d)∨(j≠i∧ρ[j]? =some (some sl)):=fun j sl e=>by
  by_cases hj:j=i
  ·subst hj
   have hi:j<ρ.length:=by
    have:=(List.getElem?_eq_some_iff.mp e).1
    simpa using this
   rw[List.getElem?_set_self hi] at e
   cases e
   exact .inl ⟨rfl,hi,rfl⟩
  ·rw[List.getElem?_set_ne (Ne.symm hj)] at e
   exact .inr ⟨hj,e⟩
 refine⟨s.ext,⟨s.st.fh,fun j sl e=>?_⟩,by simp[hl],fun j c a e e'=>?_,fun j k c c' a e1 e2 e3 e4=>?_⟩
 ·rcases get j sl e with⟨rfl,hi,rfl⟩ | ⟨hj,e⟩
  ·exact⟨v,by rw[List.getElem?_set_self (by omega)],h⟩
  ·obtain⟨u,h1,h2⟩:=s.st.den j sl e
   exact⟨u,by rw[List.getElem?_set_ne (Ne.symm hj)];exact h1,h2⟩
 ·rcases get j _ e with⟨_,_,z⟩ | ⟨hj,e⟩
  ·cases z
  ·rw[List.getElem?_set_ne (Ne.symm hj)] at e'
   exact s.own j c a e e'
 ·rcases get j _ e1 with⟨_,_,z⟩ | ⟨hj,e1⟩
  ·cases z
  ·rcases get k _ e2 with⟨_,_,z⟩ | ⟨hk,e2⟩
   ·cases z
   ·rw[List.getElem?_set_ne (Ne.symm hj)] at e3
    rw[List.getElem?_set_ne (Ne.symm hk)] at e4
    exact s.sep j k c c' a e1 e2 e3 e4
theorem StOk.setNew(s:StOk K F₀ H₀ F H σ ρ){i:Nat}{a:Addr}{o:HO}{c₀:C}(n:H a=none)(h:DenC K F c₀ o):
 StOk K F₀ H₀ F (upd H a o) (σ.set i (some (.ref a))) (ρ.set i (some (.ow c₀))):=by
 have hle:=s.len
 have e0:=Ext.free (o:=o) s.st.fh n
 have nF:F a=none:=Same.free s.st.fh n
 have get:∀(j:Nat) (sl:Sl),(ρ.set i (some (.ow c₀)))[j]? =some (some sl)→(j=i∧i<ρ.length∧sl= .ow c₀)∨(j≠i∧ρ[j]? =some (some sl)):=fun j sl e=>by
  by_cases hj:j=i
  ·subst hj
   have hi:j<ρ.length:=by
    have:=(List.getElem?_eq_some_iff.mp e).1
    simpa using this
   rw[List.getElem?_set_self hi] at e
   cases e
   exact .inl ⟨rfl,hi,rfl⟩
  ·rw[List.getElem?_set_ne (Ne.symm hj)] at e
   exact .inr ⟨hj,e⟩
 have old:∀(j:Nat) (c:C) (b:Addr),ρ[j]? =some (some (.ow c))→σ[j]? =some (some (.ref b))→b≠a:=fun j c b e e' z=>by
  obtain⟨u,h1,b',o,h2,h3,_⟩:=s.st.den j _ e
  rw[h1] at e'
  cases e'
  cases h2
  rw[z,n] at h3
  cases h3
 refine⟨s.ext.trans e0,⟨e0.fh,fun j sl e=>?_⟩,by simp[hle],fun j c b e e'=>?_,fun j k c c' b e1 e2 e3 e4=>?_⟩
 ·rcases get j sl e with⟨rfl,hi,rfl⟩ | ⟨hj,e⟩
  ·exact⟨.ref a,by rw[List.getElem?_set_self (by omega)],a,_,rfl,aF,nF,h⟩
  ·obtain⟨u,h1,h2⟩:=s.st.den j sl e
   exact⟨u,by rw[List.getElem?_set_ne (Ne.symm hj)];exact h1,h2.ext e0⟩
 ·rcases get j _ e with⟨rfl,hi,_⟩ | ⟨hj,e⟩
  ·rw[List.getElem?_set_self (by omega)] at e'
   cases e'
   exact Same.free s.ext.hh n
  ·rw[List.getElem?_set_ne (Ne.symm hj)] at e'
   exact s.own j c b e e'
 ·rcases get j _ e1 with⟨rfl,hi,_⟩ | ⟨hj,e1⟩
  ·rw[List.getElem?_set_self (by omega)] at e3
   cases e3
   rcases get k _ e2 with⟨rfl,_,_⟩ | ⟨hk,e2⟩
   ·rfl
   ·rw[List.getElem?_set_ne (Ne.symm hk)] at e4
    exact absurd rfl (old k c' a e2 e4)
  ·rcases get k _ e2 with⟨LJ,hi,_⟩ | ⟨hk,e2⟩
   ·rw[LJ,List.getElem?_set_self (by omega)] at e4
    cases e4
    rw[List.getElem?_set_ne (Ne.symm hj)] at e3
    exact absurd rfl (old j c a (by assumption) e3)
   ·rw[List.getElem?_set_ne (Ne.symm hj)] at e3
    rw[List.getElem?_set_ne (Ne.symm hk)] at e4
    exact s.sep j k c c' b e1 e2 e3 e4
theorem StOk.chg(s:StOk K F₀ H₀ F H σ ρ){i:Nat}{a:Addr}{c c₀:C}{o₀:HO}(hi:ρ[i]? =some (some (.ow c)))(ha:σ[i]? =some (some (.ref a)))(h:DenC K F c₀ o₀):
 StOk K F₀ H₀ F (upd H a o₀) σ (ρ.set i (some (.ow c₀))):=by
 have hle:=s.len
 have h0:=s.own i c a hi ha
 obtain⟨u,q1,a',o,q2,q3,q4,q5⟩:=s.st.den i _ hi
 rw[ha] at q1
 cases q1
 cases q2
 have LC:i<ρ.length:=(List.getElem?_eq_some_iff.mp hi).1
 have get:∀(j:Nat) (sl:Sl),(ρ.set i (some (.ow c₀)))[j]? =some (some sl)→(j=i∧sl= .ow c₀)∨(j≠i∧ρ[j]? =some (some sl)):=fun j sl e=>by
  by_cases hj:j=i
  ·subst hj
   rw[List.getElem?_set_self LC] at e
   cases e
   exact .inl ⟨rfl,rfl⟩
  ·rw[List.getElem?_set_ne (Ne.symm hj)] at e
   exact .inr ⟨hj,e⟩
 have fh:Same F (upd H a o₀):=fun b o e=>by
  rw[av (fun z=>by rw[z,q4] at e;cases e)];exact s.st.fh b o e
 refine⟨⟨fun b o e=>?_,s.ext.ff,fh,s.ext.new⟩,⟨fh,fun j sl e=>?_⟩,by simp[hle],fun j c' b e e'=>?_,fun j k c1 c2 b e1 e2 e3 e4=>?_⟩
 ·rw[av (fun z=>by rw[z,h0] at e;cases e)];exact s.ext.hh b o e
 ·rcases get j sl e with⟨rfl,rfl⟩ | ⟨hj,e⟩
  ·exact⟨.ref a,ha,a,_,rfl,aF,q4,h⟩
  ·obtain⟨u,h1,h2⟩:=s.st.den j sl e
   refine⟨u,h1,?_⟩
   cases sl with
   |fz d=>exact h2
   |ow c'=>
    obtain⟨b,o',r1,r2,r3,r4⟩:=h2
    refine⟨b,o',r1,?_,r3,r4⟩
    rw[av (fun z=>hj (s.sep j i c' c a e hi (by rw[h1,r1,z]) ha))];exact r2
 ·rcases get j _ e with⟨rfl,_⟩ | ⟨hj,e⟩
  ·rw[ha] at e';cases e';exact h0
  ·exact s.own j c' b e e'
 ·have k1:∃c,ρ[j]? =some (some (.ow c)):=by
   rcases get j _ e1 with⟨rfl,_⟩ | ⟨_,e⟩
   ·exact⟨c,hi⟩
   ·exact⟨_,e⟩
  have k2:∃c,ρ[k]? =some (some (.ow c)):=by
   rcases get k _ e2 with⟨rfl,_⟩ | ⟨_,e⟩
   ·exact⟨c,hi⟩
   ·exact⟨_,e⟩
  obtain⟨_,k1⟩:=k1
  obtain⟨_,k2⟩:=k2
  exact s.sep j k _ _ b k1 k2 e3 e4
def frz(i:Nat)(ρ:aX):aX:=match ρ[i]? with
 |some (some (.ow c))=>ρ.set i (some (.fz c.d))
 |_=>ρ
theorem StOk.frz(s:StOk K F₀ H₀ F H σ ρ)(i:Nat)(obj:Addr→Obj):(∃a o,H a=some o∧DenC K F (ρ[i]?.elim (.lst []) fun x=>x.elim (.lst []) fun y=>match y with | .ow c=>c | _=> .lst []) o∧σ[i]? =some (some (.ref a))∧StOk K F₀ H₀ (upd F a (mw (obj a) o)) (upd H a (mw (obj a) o)) σ (frz i ρ))∨frz i ρ=ρ:=by
 unfold L3.frz
 split
 ·rename_i c₀ hi
  have hle:=s.len
  obtain⟨u,ha,a,o,rfl,q3,q4,y0⟩:=s.st.den i _ hi
  refine .inl ⟨a,o,q3,by rw[hi];exact y0,ha,?_⟩
  have h0:=s.own i _ a hi ha
  have LC:i<ρ.length:=(List.getElem?_eq_some_iff.mp hi).1
  have ff:Same F (upd F a (mw (obj a) o)):=fun b o e=>by rw[av (fun z=>by rw[z,q4] at e;cases e)];exact e
  have fh:Same (upd F a (mw (obj a) o)) (upd H a (mw (obj a) o)):=fun b o e=>by
   by_cases z:b=a
   ·rw[z,aF] at e⊢;exact e
   ·rw[av z] at e⊢;exact s.st.fh b o e
  have get:∀(j:Nat) (sl:Sl),(ρ.set i (some (.fz c₀.d)))[j]? =some (some sl)→(j=i∧sl= .fz c₀.d)∨(j≠i∧ρ[j]? =some (some sl)):=fun j sl e=>by
   by_cases hj:j=i
   ·subst hj
    rw[List.getElem?_set_self LC] at e
    cases e
    exact .inl ⟨rfl,rfl⟩
   ·rw[List.getElem?_set_ne (Ne.symm hj)] at e
    exact .inr ⟨hj,e⟩
  refine⟨⟨fun b u q=>?_,s.ext.ff.trans ff,fh,fun b hb=>?_⟩,⟨fh,fun j sl e=>?_⟩,by simp[hle],fun j c' b e e'=>?_,fun j k c1 c2 b e1 e2 e3 e4=>?_⟩
  ·rw[av (fun z=>by rw[z,h0] at q;cases q)];exact s.ext.hh b u q
  ·rcases s.ext.new b hb with q | q
   ·exact .inl (by rw[av (fun z=>hb (by rw[z];exact h0))];exact q)
   ·exact .inr q
  ·rcases get j sl e with⟨rfl,rfl⟩ | ⟨hj,e⟩
   ·exact⟨.ref a,ha,DenC.den y0 ff aF⟩
   ·obtain⟨u,h1,h2⟩:=s.st.den j sl e
    refine⟨u,h1,?_⟩
    cases sl with
    |fz d=>exact Den.mono ff h2
    |ow c'=>
     obtain⟨b,o',r1,r2,r3,r4⟩:=h2
     have gN:b≠a:=fun z=>hj (s.sep j i c' _ a e hi (by rw[h1,r1,z]) ha)
     exact⟨b,o',r1,by rw[av gN];exact r2,by rw[av gN];exact r3,DenC.mono ff r4⟩
  ·rcases get j _ e with⟨_,z⟩ | ⟨hj,e⟩
   ·cases z
   ·exact s.own j c' b e e'
  ·rcases get j _ e1 with⟨_,z⟩ | ⟨_,e1⟩
   ·cases z
   ·rcases get k _ e2 with⟨_,z⟩ | ⟨_,e2⟩
    ·cases z
    ·exact s.sep j k _ _ b e1 e2 e3 e4
 ·exact .inr rfl
end
def join(F H:Hp):Hp:=fun a=>match F a with
 |some o=>some o
 |none=>H a
theorem StOk.rebase{K:W.Frag}{F₀ H₀ F H:Hp}{σ:St}{ρ:aX}(s:StOk K F₀ H₀ F H σ ρ):StOk K F (join F H₀) F H σ ρ∧∀F' H',Ext F (join F H₀) F' H'→Ext F₀ H₀ F' H':=by
 have hj:Same (join F H₀) H:=fun b o e=>by
  unfold join at e
  cases q:F b with
  |some u=>rw[q] at e;cases e;exact s.st.fh b _ q
  |none=>rw[q] at e;exact s.ext.hh b o e
 have h0:Same H₀ (join F H₀):=fun b o e=>by
  unfold join
  cases q:F b with
  |some u=>
   have h1:=s.st.fh b u q
   rw[s.ext.hh b o e] at h1
   exact h1.symm
  |none=>exact e
 refine⟨⟨⟨hj,Same.refl _,s.st.fh,fun _ _=> .inl rfl⟩,s.st,s.len,fun i c a e e'=>?_,s.sep⟩,fun F' H' x=>⟨h0.trans x.hh,s.ext.ff.trans x.ff,x.fh,fun a ha=>?_⟩⟩
 ·have h1:=s.own i c a e e'
  obtain⟨v,q1,a',o,q2,q3,q4,_⟩:=s.st.den i _ e
  rw[e'] at q1
  cases q1
  cases q2
  unfold join
  rw[q4]
  exact h1
 ·have:join F H₀ a≠none:=by
   cases q:H₀ a with
   |none=>exact absurd q ha
   |some o=>rw[h0 a o q];exact fun z=>nomatch z
  rcases s.ext.new a ha with p | p
  ·rcases x.new a this with q | ⟨ts,q⟩
   ·exact .inl (q.trans p)
   ·cases z:H₀ a with
    |none=>exact absurd z ha
    |some o=>
     rw[h0 a o z] at q
     exact .inr ⟨ts,q⟩
  ·exact .inr p
theorem StOk.unbase{K:W.Frag}{F₀ H₀ F U F' H':Hp}{σ:St}{ρ:aX}(k:∀F' H',Ext F U F' H'→Ext F₀ H₀ F' H')(s:StOk K F U F' H' σ ρ)(h:Same H₀ U):StOk K F₀ H₀ F' H' σ ρ:=
 ⟨k _ _ s.ext,s.st,s.len,fun i c a e e'=>Same.free h (s.own i c a e e'),s.sep⟩
theorem kD{K:W.Frag}{F₀ H₀ F H:Hp}{σ:St}{ρ:aX}(s:StOk K F₀ H₀ F H σ ρ):Same H₀ (join F H₀):=fun b o e=>by
 unfold join
 cases q:F b with
 |some u=>
  have h1:=s.st.fh b u q
  rw[s.ext.hh b o e] at h1
  exact h1.symm
 |none=>exact e
theorem Inv.refrz{X:Cx}{pins:List (Addr×Obj)}{σ:St}{H:Hp}{s:Shared}{a:Addr}{o o':HO}(I:Inv X pins σ H s)(e:H a=some o)
 (ho:o'=o∨∃u,o'= .frz ((s.heap.get? a).getD {cls:= .none,data:= .fields #[]}) u∧((∃k,o= .dT k∧u= .dT k)∨∃k,o= .dK k∧u= .dK k)):Inv X pins σ (upd H a o') s:=by
 rcases ho with rfl | ⟨u,rfl,hu⟩
 ·have:upd H a o'=H:=by
   funext b
   by_cases z:b=a
   ·rw[z,aF,e]
   ·rw[av z]
  rw[this];exact I
 have OY:o=u:=by rcases hu with⟨k,h1,h2⟩ | ⟨k,h1,h2⟩<;>rw[h1,h2]
 subst OY
 have nt:∀ts,o≠ .tup ts:=fun ts z=>by rcases hu with⟨k,h1,_⟩ | ⟨k,h1,_⟩<;>rw[h1] at z<;>cases z
 have nf:∀ob v,o≠ .frz ob v:=fun ob v z=>by rcases hu with⟨k,h1,_⟩ | ⟨k,h1,_⟩<;>rw[h1] at z<;>cases z
 have nb:∀p,o≠ .tbl p:=fun p z=>by rcases hu with⟨k,h1,_⟩ | ⟨k,h1,_⟩<;>rw[h1] at z<;>cases z
 have no:∀p,o≠ .own p:=fun p z=>by rcases hu with⟨k,h1,_⟩ | ⟨k,h1,_⟩<;>rw[h1] at z<;>cases z
 have ne:∀b,H b=none→b≠a:=fun b hb z=>by rw[z,e] at hb;cases hb
 have hk:=I.hok a o e
 have d5:=hk.lt
 obtain⟨ob,Jg⟩:∃ob,s.heap.get? a=some ob:=by
  rcases hu with⟨k,h1,_⟩ | ⟨k,h1,_⟩
  ·subst h1;obtain⟨_,_,_,_,ob,_,_,q,_⟩:=hk;exact⟨ob,q⟩
  ·subst h1;obtain⟨_,_,_,_,ob,_,_,q,_⟩:=hk;exact⟨ob,q⟩
 rw[Jg]
 refine⟨I.ok,I.os,I.bare,⟨I.base.keep,I.base.slot,fun b q h1 h2 h3=>?_,I.base.there,fun b xs q=>?_,fun b q1 v q=>?_,fun b ps q=>?_⟩,I.loc,I.cell,?_,fun x c q=>?_,fun p hp=>?_,fun b v q=>?_,I.len⟩
 ·have:=I.base.free b q h1 h2 h3
  rw[av (ne b this)];exact this
 ·have:=I.base.tups b xs q
  rw[av (fun z=>by rw[z,e] at this;exact nt xs (Option.some.inj this))];exact this
 ·have:=I.base.frzs b q1 v q
  rw[av (fun z=>by rw[z,e] at this;exact nf _ _ (Option.some.inj this))];exact this
 ·obtain⟨m,this⟩:=I.base.tbls b ps q
  exact⟨m,by rw[av (fun z=>by rw[z,e] at this;exact nb _ (Option.some.inj this))];exact this⟩
 ·rw[av (ne _ I.free)];exact I.free
 ·rw[av (ne _ (I.freeC x c q))];exact I.freeC x c q
 ·obtain⟨h1,h2,h3⟩:=I.pin p hp
  exact⟨h1,by rw[av (ne _ h2)];exact h2,h3⟩
 ·have st:∀{c:Addr}{v:HO},ObjOk X.prog X.w H s.heap c v→ObjOk X.prog X.w (upd H a (.frz ob o)) s.heap c v:=fun {c v} k=>k.stay (fun _ _ _ q=>q)
   (fun c' q=>by rw[av (fun z=>by rw[z,e] at q;exact no _ (Option.some.inj q))];exact q) fun c' xs q=>by rw[av (fun z=>by rw[z,e] at q;exact nt _ (Option.some.inj q))];exact q
  by_cases z:b=a
  ·subst z
   rw[show (some ob).getD _=ob from rfl,aF] at q
   cases q
   exact⟨Jg,st hk⟩
  ·rw[av z] at q
   exact st (I.hok b v q)
def aB(a b:DS):DS:=fun ρ=>a ρ>>=fun o=>match o with | .nx ρ'=>b ρ' | .rt d=>M.ret (.rt d)
def cJ:DS:=fun ρ=>M.ret (.nx ρ)
def bt(δ:DE):DS:=fun ρ=>δ ρ>>=fun d=>M.ret (.rt d)
def fv(δ:DE):DS:=fun ρ=>δ ρ>>=fun _=>M.ret (.nx ρ)
def bJ(i:Nat)(δ:DE):DS:=fun ρ=>δ ρ>>=fun d=>M.ret (.nx (ρ.set i (some (.fz d))))
def gq(c:DT)(a b:DS):DS:=fun ρ=>c ρ>>=fun x=>if x then a ρ else b ρ
def Cy(i:Nat)(a:DS):DS:=fun ρ=>a (frz i ρ)
def zP(i:Nat):DS:=fun ρ=>M.ret (.nx (ρ.set i (some (.ow (.lst [])))))
def zD(ρ:aX)(i:Nat):Option (List D):=match ρ[i]? with
 |some (some (.ow (.lst ds)))=>some ds
 |_=>none
theorem qG{ρ:aX}{i:Nat}{ds:List D}(h:zD ρ i=some ds):ρ[i]? =some (some (.ow (.lst ds))):=by
 unfold zD at h
 split at h
 ·rename_i ds' e
  cases h
  exact e
 ·cases h
def pK(i:Nat)(δ:DE):DS:=fun ρ=>match zD ρ i with
 |some ds=>δ ρ>>=fun d=>if ds.length<lim then M.ret (.nx (ρ.set i (some (.ow (.lst (ds++[d])))))) else M.stuck
 |none=>M.stuck
def Cv(i:Nat)(δ:DE):DS:=fun ρ=>match zD ρ i with
 |some ds=>δ ρ>>=fun d=>lstM d>>=fun es=>if ds.length+es.length≤lim then M.ret (.nx (ρ.set i (some (.ow (.lst (ds++es)))))) else M.stuck
 |none=>M.stuck
def forL(put:D→aX→Option aX)(body:DS):List D→DS
 |[],ρ=>M.ret (.nx ρ)
 |d::ds,ρ=>(match put d ρ with | none=>M.stuck | some ρ1=>body ρ1>>=fun o=>match o with | .nx ρ2=>forL put body ds ρ2 | .rt v=>M.ret (.rt v))
def putN(i:Nat):D→aX→Option aX:=fun d ρ=>some (ρ.set i (some (.fz d)))
def dZ(put:D→aX→Option aX)(δi:DA)(body:DS):DS:=fun ρ=>δi ρ>>=fun ds=>forL put body ds ρ
section
variable{X:Cx}{Xw:Nat→Hp→Prop}{F₀ H₀:Hp}{st:Stmt}{rest:List Stmt}{τ τ':DS}{e:Expr}{δ:DE}{pos:Pos}
theorem bo:PSDs X Xw [] cJ:=fun F₀ H₀=>PSs.weak EF fun D σ H ⟨F,ρ,s,w⟩=>w σ F H s
theorem ag(h1:iL X Xw st τ)(h2:PSDs X Xw rest τ'):PSDs X Xw (st::rest) (aB τ τ'):=fun F₀ H₀=>PSs.weak (Cd (h1 F₀ H₀) (h2 F₀ H₀)) fun D σ H ⟨F,ρ,s,w⟩=>by
 refine⟨F,ρ,s,?_⟩
 unfold aB at w
 match τ ρ,w with
 |none,w=>exact w
 |some (.ok (.nx ρ')),w=>exact fun σ' F' H' s'=>⟨F',ρ',s',w⟩
 |some (.ok (.rt d)),w=>exact w
 |some (.ex n),w=>exact w
theorem ao(h1:iL X Xw st τ):PSDs X Xw [st] τ:=fun F₀ H₀=>EG (h1 F₀ H₀)
theorem fk{i:Nat}(h:iL X Xw st τ):iL X Xw st (Cy i τ):=fun F₀ H₀ pins sh σ H D I ⟨F,ρ,s,w⟩=>by
 rcases s.frz i (fun a=>(sh.heap.get? a).getD {cls:= .none,data:= .fields #[]}) with⟨a,o,ha,hc,hσ,s'⟩ | e
 ·refine h F₀ H₀ pins sh σ _ D (L3.Inv.refrz I ha ?_) ⟨_,_,s',w⟩
  generalize (ρ[i]?.elim (C.lst []) fun x=>x.elim (.lst []) fun y=>match y with | .ow c=>c | _=> .lst [])=c at hc
  cases c with
  |lst ds=>obtain⟨vs,rfl,_⟩:=hc;exact .inl rfl
  |dct ks ds=>obtain⟨vs,rfl,_⟩:=hc;exact .inr ⟨_,rfl, .inl ⟨_,rfl,rfl⟩⟩
  |dci ks ds=>obtain⟨vs,rfl,_⟩:=hc;exact .inr ⟨_,rfl, .inr ⟨_,rfl,rfl⟩⟩
 ·exact h F₀ H₀ pins sh σ H D I ⟨F,ρ,s,by unfold Cy at w;rw[e] at w;exact w⟩
theorem aA(h:PD X Xw e δ):iL X Xw (.Return (some e) pos) (bt δ):=fun F₀ H₀=>PS.weak (Hu h) fun D σ H ⟨F,ρ,s,w⟩=>by
 refine⟨F,ρ,s.st,?_⟩
 unfold bt at w
 match δ ρ,w with
 |none,w=>exact w
 |some (.ok d),w=>exact fun v H' F' e' q=>w v F' H' (s.ext.trans e') q
 |some (.ex n),w=>exact fun F' H' e'=>w F' H' (s.ext.trans e')
theorem bO(h:PD X Xw e δ)(hs:swapsWith e none pos.line X.env=pure false:=by rfl):iL X Xw (.Expr e pos) (fv δ):=fun F₀ H₀=>PS.weak (mJ h hs) fun D σ H ⟨F,ρ,s,w⟩=>by
 refine⟨F,ρ,s.st,?_⟩
 unfold fv at w
 match δ ρ,w with
 |none,w=>exact w
 |some (.ok d),w=>exact fun v H' F' e' q=>w σ F' H' (s.ext' e')
 |some (.ex n),w=>exact fun F' H' e'=>w F' H' (s.ext.trans e')
theorem aS{i:Nat}{x:Str}{pos':Pos}(hN:X.N.Nodup)(hi:X.N[i]? =some x)(hx:Loc X.env.scope x)(he:PD X Xw e δ)(hf:X.fn x=true∨X.env.scope.names.lookup x=some .local:=by first | exact .inl rfl | exact .inr rfl)
 (hs:swapsWithSole [.Name x pos'] e pos.line X.env=pure false:=by rfl):
 iL X Xw (.Assign [.Name x pos'] e pos) (bJ i δ):=fun F₀ H₀=>PS.weak (sH he (bx hN hi hx hf) hs) fun D σ H ⟨F,ρ,s,w⟩=>by
 refine⟨F,ρ,s.st,?_⟩
 unfold bJ at w
 match δ ρ,w with
 |none,w=>exact w
 |some (.ok d),w=>exact fun v H' F' e' q=>w _ F' H' ((s.ext' e').set q)
 |some (.ex n),w=>exact fun F' H' e'=>w F' H' (s.ext.trans e')
theorem u3{elt iter tg:Expr}{ifs:List Expr}{scope:Scope}{bp:Pos}{tn:List Str}{n:Nat}{δi:DA}{δt:DT}{δe:DE}{i:Nat}{x:Str}{pos':Pos}(hN:X.N.Nodup)(pA:X.N[i]? =some x)(hx:Loc X.env.scope x)
 (sc:CompSc X scope tn)(hn:tn.length=max n 1)(hc:X.calm=true)(hi:xr X Xw tg iter δi)
 (hg:∀pins cl C fp s₂ H σ,Ag (iQ X scope tn pins cl C fp s₂ H) tg n σ)
 (ht:∀pins cl C fp s₂ H,ki (iQ X scope tn pins cl C fp s₂ H) ifs δt)
 (he:∀pins cl C fp s₂ H,PD (iQ X scope tn pins cl C fp s₂ H) (fun _ _=>False) elt δe)
 (hf:X.fn x=true∨X.env.scope.names.lookup x=some .local:=by first | exact .inl rfl | exact .inr rfl)
 (O4:swapsWith (.ListComp elt [⟨tg,iter,ifs,0⟩] scope bp) (some (.Name x pos')) pos.line X.env=pure true:=by rfl)
 (hs:∀x,foldedSetIterable iter X.env x=pure x:=by intro _;rfl):
 iL X Xw (.Assign [.Name x pos'] (.ListComp elt [⟨tg,iter,ifs,0⟩] scope bp) pos) (bJ i (bT n δi δt δe)):=fun F₀ H₀ pins s σ H D I ⟨F,ρ,S,w⟩=>by
 obtain⟨cl,A2,AA,HW⟩:=mV (scope:=scope) (env:=X.env) fun y hy hf=>I.ok.has y.1 (sc.frees y hy hf)
 have w':WP X.K Xw F H (bT n δi δt δe ρ) (fun v H'=>D.nx (σ.set i (some v)) H'):=by
  have w:WPS X.K Xw F₀ H₀ (bT n δi δt δe ρ>>=fun d=>M.ret (.nx (ρ.set i (some (.fz d))))) D:=w
  match bT n δi δt δe ρ,w with
  |none,w=>exact w
  |some (.ok d),w=>exact fun v H' F' e' q=>w _ F' H' ((S.ext' e').set q)
  |some (.ex n),w=>exact fun F' H' e'=>w F' H' (S.ext.trans e')
 rw[exec_Assign_Name_used _ _ _ _ O4]
 refine wpAny_bind (wpAny_standAt (wpAny_bind ?_))
 show wpAny _ X.A (do let _←comprehension (.ListComp elt [⟨tg,iter,ifs,0⟩] scope bp) scope X.env _ (newList []) false (eval iter X.env) (some (assign (.Name x pos') X.env))) _ _ s
 refine wpAny_bind (wpAny_mono (wpAny_comprehension_free (use:=some (assign (.Name x pos') X.env)) (Q:=fun _ s'=>SP X pins D .next s') rfl hs A2 sc.kind sc.names
  (tX (RR:=fun acc C=>compPost (model X.prog X.w) X.A X.xe (some (assign (.Name x pos') X.env)) (fun _ s'=>SP X pins D .next s') acc C) sc hn hc hi hg ht he I S.st w' AA HW fun s1 C D' H' I1 q b=>?_)) (fun _ s' hq=>wpAny_pure (wpAny_pure hq)) fun _ _ e=>e)
 show wpAny _ X.A (assign (.Name x pos') X.env (.ref D')) _ _ _
 refine wpAny_assign_Name (ra I1 hN pA hx (v:= .ref D') rfl (fun s2 I2 ⟨a,sb,ha⟩=>?_) hf)
 have Oa:C≠a:=by
  rcases ha with z | z
  ·rw[z];exact b.nl
  ·exact Ne.symm (b.nc x a z)
 obtain⟨m,hm⟩:=b.ns
 have Gs:s2.heap.Ns C m:=hm.sameBut sb Oa
 refine⟨m,Gs,fun h' xR=>⟨_,H',Inv.block I2 ⟨⟨m,Gs⟩,b.free,b.nl,b.nw,b.nc,b.np⟩ xR,q⟩⟩
theorem bK{c:Expr}{a b:List Stmt}{tc:DT}(hc:o6 X Xw c tc)(ha:PSDs X Xw a τ)(hb:PSDs X Xw b τ'):iL X Xw (.If c a b pos) (gq tc τ τ'):=fun F₀ H₀=>PS.weak (JR hc (ha F₀ H₀) (hb F₀ H₀)) fun D σ H ⟨F,ρ,s,w⟩=>by
 refine⟨F,ρ,s.st,?_⟩
 unfold gq at w
 match tc ρ,w with
 |none,w=>exact w
 |some (.ok true),w=>exact fun H' F' e'=>⟨F',ρ,s.ext' e',w⟩
 |some (.ok false),w=>exact fun H' F' e'=>⟨F',ρ,s.ext' e',w⟩
 |some (.ex n),w=>exact fun F' H' e'=>w F' H' (s.ext.trans e')
theorem mK{i:Nat}{x:Str}{pos' pJ:Pos}(hN:X.N.Nodup)(hi:X.N[i]? =some x)(hx:Loc X.env.scope x)(hf:X.fn x=true∨X.env.scope.names.lookup x=some .local:=by first | exact .inl rfl | exact .inr rfl):
 iL X Xw (.Assign [.Name x pos'] (.List [] pJ) pos) (zP i):=fun F₀ H₀=>PS.weak (sH (B5 sy) (bx hN hi hx hf) rfl) fun D σ H ⟨F,ρ,s,w⟩=>by
 refine⟨Nat.zero_le _,fun p hp=>?_⟩
 exact w _ F _ (s.setNew (c₀:= .lst []) hp ⟨[],rfl,rfl,Nat.zero_le _⟩)
def Af(K:W.Frag)(g:TG)(put:D→aX→Option aX):Prop:=∀(F₀ H₀ F H:Hp) (σ:St) (ρ ρ':aX) (d:D) (v:V) (Q:St→Hp→Prop),StOk K F₀ H₀ F H σ ρ→Den K F d v→put d ρ=some ρ'→
 (∀σ',StOk K F₀ H₀ F H σ' ρ'→Q σ' H)→g v σ H Q
theorem cf{K:W.Frag}{i:Nat}:Af K (AZ i) (putN i):=fun F₀ H₀ F H σ ρ ρ' d v Q s q e k=>by
 cases e
 exact k _ (s.set q)
def PB(K:W.Frag)(Xw:Nat→Hp→Prop)(τ:DS):TS:=fun D σ H=>∃F₀ H₀,tS K Xw F₀ H₀ τ D σ H
theorem PSDs.ex{body:List Stmt}(h:PSDs X Xw body τ):PSs X body (PB X.K Xw τ):=fun pins s σ H D I ⟨F₀,H₀,w⟩=>h F₀ H₀ pins s σ H D I w
theorem cy{tg iter:Expr}{body:List Stmt}{δi:DA}{g:TG}{put:D→aX→Option aX}(hp:PassesOwn (model X.prog X.w) X.A X.env X.xe)(hc:X.calm=true)(hi:xr X Xw tg iter δi)(hg:PG X tg g)(GD:Af X.K g put)(hb:PSDs X Xw body τ)
 (hs:∀x,foldedSetIterable iter X.env x=pure x:=by intro _;rfl):iL X Xw (.For tg iter body [] pos) (dZ put δi τ):=fun F₀ H₀=>PS.weak (Ht hp hc hi hg hb.ex hs) fun D σ H ⟨F,ρ,s,w⟩=>by
 refine⟨F,ρ,s.st,?_⟩
 unfold dZ at w
 match δi ρ,w with
 |none,w=>exact w
 |some (.ex n),w=>exact fun F' H' e'=>w F' H' (s.ext.trans e')
 |some (.ok ds),w=>
  have w:WPS X.K Xw F₀ H₀ (forL put τ ds ρ) D:=w
  intro J H1 F1 e1 NF
  obtain⟨s1,back⟩:=(s.ext' e1).rebase
  have hU:=kD (s.ext' e1)
  generalize join F1 H₀=U at s1 back hU
  refine⟨fun i m σ H=>m=ds.length - i∧i≤ds.length∧∃F ρ,StOk X.K F1 U F H σ ρ∧WPS X.K Xw F₀ H₀ (forL put τ (ds.drop i) ρ) D,⟨ds.length,by simp,Nat.zero_le _,F1,ρ,s1,by simpa using w⟩,?_⟩
  rintro i m σ2 H2 ⟨rfl,LD,F2,ρ2,s2,w2⟩
  by_cases d5:i<ds.length
  ·obtain⟨d,hd⟩:∃d,ds[i]? =some d:=⟨_,List.getElem?_eq_getElem d5⟩
   obtain⟨LA,GG⟩:=(NF F2 H2 i s2.ext.ff s2.st.fh).1 d hd
   have ed:ds.drop i=d::ds.drop (i+1):=by
    obtain⟨hi,e⟩:=List.getElem?_eq_some_iff.mp hd
    rw[List.drop_eq_getElem_cons hi,e]
   rw[ed] at w2
   unfold forL at w2
   refine .inr ⟨LA,fun σ' H'=>∃F' ρ',StOk X.K F1 U F' H' σ' ρ'∧WPS X.K Xw F₀ H₀ (forL put τ (ds.drop (i+1)) ρ') D,fun σ' H' ⟨F',ρ',h2,h3⟩=>⟨ds.length - (i+1),by omega,rfl,d5,F',ρ',h2,h3⟩,fun x H3 y3=>?_⟩
   obtain⟨F3,C_,q3⟩:=GG x H3 y3
   match OZ:put d ρ2,w2 with
   |none,w2=>exact w2.elim
   |some ρ3,w2=>
    refine GD F1 U F3 H3 σ2 ρ2 ρ3 d x _ (s2.ext' C_) q3 OZ fun σ3 s3=>⟨F1,U,F3,ρ3,s3,?_⟩
    have w2:WPS X.K Xw F₀ H₀ (τ ρ3>>=fun o=>match o with | .nx ρ2=>forL put τ (ds.drop (i+1)) ρ2 | .rt v=>M.ret (.rt v)) D:=w2
    match τ ρ3,w2 with
    |none,w2=>exact w2
    |some (.ok (.nx ρ')),w2=>exact fun σ' F' H' s'=>⟨F',ρ',s',w2⟩
    |some (.ok (.rt d)),w2=>exact fun v F' H' e q=>w2 v F' H' (back _ _ e) q
    |some (.ex n),w2=>exact fun F' H' e=>w2 F' H' (back _ _ e)
  ·have hi:i=ds.length:=by omega
   subst hi
   rw[List.drop_length] at w2
   exact .inl ⟨(NF F2 H2 ds.length s2.ext.ff s2.st.fh).2 (Nat.le_refl _),w2 σ2 F2 H2 (s2.unbase back hU)⟩
end
def gI(f:Int→Int→D):D→D→M D
 | .int i, .int j=>M.ret (f i j)
 |_,_=>M.stuck
def II(c:Int→Int→Bool)(f:Int→Int→D):D→D→M D
 | .int i, .int j=>if c i j then M.ret (f i j) else M.stuck
 |_,_=>M.stuck
theorem qE{K:W.Frag}{gv:Int→Int→V}{gd:Int→Int→D}(h:∀F i j,Den K F (gd i j) (gv i j)):vO K (wV gv) (gI gd):=fun Xw F H x y dx dy Q s hx hy w=>by
 unfold gI at w
 split at w
 ·rename_i i j
  exact⟨i,j,hx,hy,WP.now w s (h F i j)⟩
 ·exact w.elim
theorem wJ{K:W.Frag}{gv:Int→Int→V}{gd:Int→Int→D}{c:Int→Int→Bool}{C:Int→Int→Prop}(h:∀F i j,Den K F (gd i j) (gv i j))(hc:∀i j,c i j=true→C i j):vO K (rI C gv) (II c gd):=fun Xw F H x y dx dy Q s hx hy w=>by
 unfold II at w
 split at w
 ·rename_i i j
  split at w
  ·rename_i Kx
   exact⟨i,j,hx,hy,hc i j Kx,WP.now w s (h F i j)⟩
  ·exact w.elim
 ·exact w.elim
def dr:=gI fun i j=> .int (i+j)
def kz:=gI fun i j=> .int (i - j)
def gJ:=II (fun i j=>decide ((-(2 ^ 64)<i∧i<2 ^ 64)∨(-(2 ^ 64)<j∧j<2 ^ 64))) fun i j=> .int (i*j)
def pq:=II (fun _ j=>decide (0<j∧j<1073741824)) fun i j=> .int (i / j)
def jt:=II (fun _ j=>decide (0<j)) fun i j=> .int (i % j)
def Ku:=gI fun i j=> .bl (decide (i<j))
def IH:=gI fun i j=> .bl (decide (j<i))
def Kt:=gI fun i j=> .bl (decide (j≤i))
section
variable{X:Cx}{Xw:Nat→Hp→Prop}{a b:Expr}{δa δb:DE}{pos:Pos}
theorem cG(ha:PD X Xw a δa)(hb:PD X Xw b δb):PD X Xw (.BinOp a .Add b pos) (d2 dr δa δb):=qL G3 (qE fun _ _ _=>rfl) ha hb
theorem kQ(ha:PD X Xw a δa)(hb:PD X Xw b δb):PD X Xw (.BinOp a .Sub b pos) (d2 kz δa δb):=qL G7 (qE fun _ _ _=>rfl) ha hb
theorem gZ(ha:PD X Xw a δa)(hb:PD X Xw b δb):PD X Xw (.BinOp a .Mult b pos) (d2 gJ δa δb):=qL G5 (wJ (fun _ _ _=>rfl) fun i j h=>by unfold CMul;exact of_decide_eq_true h) ha hb
theorem sC(ha:PD X Xw a δa)(hb:PD X Xw b δb):PD X Xw (.BinOp a .FloorDiv b pos) (d2 pq δa δb):=qL Ec (wJ (fun _ _ _=>rfl) fun i j h=>by unfold Ii;exact of_decide_eq_true h) ha hb
theorem kP(ha:PD X Xw a δa)(hb:PD X Xw b δb):PD X Xw (.BinOp a .Mod b pos) (d2 jt δa δb):=qL G4 (wJ (fun _ _ _=>rfl) fun i j h=>of_decide_eq_true h) ha hb
theorem JT(ha:PD X Xw a δa)(hb:PD X Xw b δb):o6 X Xw (.Compare a [.Lt] [b] pos) (cY (d2 Ku δa δb)):=gp BK (qE fun _ _ _=>rfl) ha hb
theorem FI(ha:PD X Xw a δa)(hb:PD X Xw b δb):o6 X Xw (.Compare a [.Gt] [b] pos) (cY (d2 IH δa δb)):=gp JJ (qE fun _ _ _=>rfl) ha hb
def fI:D→D→M D
 | .lst ds, .int i=>match atI ds i with | some d=>M.ret d | none=>M.stuck
 |_,_=>M.stuck
def bu:D→D→M D
 | .tup ds, .int i=>match atI ds i with | some d=>M.ret d | none=>M.stuck
 |_,_=>M.stuck
def AX:D→D→M D
 | .scr ns, .int i=>match atI ns i with | some n=>M.ret (.int n) | none=>M.stuck
 |_,_=>M.stuck
def rP:D→D→M D
 | .str x, .int i=>match atI x.cps.toList i with | some c=>M.ret (.str ⟨#[c]⟩) | none=>M.stuck
 |_,_=>M.stuck
theorem DenL.atI{K:W.Frag}{F:Hp}{ds:List D}{vs:List V}(h:DenL K F ds vs){i:Int}{d:D}(e:L2.atI ds i=some d):∃v,L2.atI vs i=some v∧Den K F d v:=by
 unfold L2.atI at e⊢
 rw[←h.len]
 cases q:De ds.length i with
 |none=>rw[q] at e;cases e
 |some j=>
  rw[q] at e
  exact h.get e
theorem Ee{K:W.Frag}:vO K (Hz K) fI:=fun Xw F H x y dx dy Q s hx hy w=>by
 unfold fI at w
 split at w
 ·rename_i ds i
  obtain⟨a,vs,h1,h2,h3,h4⟩:=hx
  split at w
  ·rename_i d e
   obtain⟨v,e1,q⟩:=h3.atI e
   exact⟨a,vs,i,v,h1,hy,SqL.of (s _ _ h2),e1,WP.now w s q⟩
  ·exact w.elim
 ·exact w.elim
theorem Eh{K:W.Frag}:vO K (J1 K) bu:=fun Xw F H x y dx dy Q s hx hy w=>by
 unfold bu at w
 split at w
 ·rename_i ds i
  obtain⟨a,vs,h1,h2,h3,h4⟩:=hx
  split at w
  ·rename_i d e
   obtain⟨v,e1,q⟩:=h3.atI e
   exact⟨a,vs,i,v,h1,hy,SqT.of (s _ _ h2),e1,WP.now w s q⟩
  ·exact w.elim
 ·exact w.elim
theorem Ef{K:W.Frag}:vO K (Hz K) AX:=fun Xw F H x y dx dy Q s hx hy w=>by
 unfold AX at w
 split at w
 ·rename_i ns i
  obtain⟨a,h1,h2,h3⟩:=hx
  split at w
  ·rename_i n e
   refine⟨a,_,i, .int n,h1,hy,Same.seq s h2,?_,WP.now w s rfl⟩
   unfold L2.atI at e⊢
   rw[List.length_map]
   cases q:De ns.length i with
   |none=>rw[q] at e;cases e
   |some j=>
    rw[q] at e
    have e:ns[j]? =some n:=e
    show (ns.map V.int)[j]? =some (.int n)
    rw[List.getElem?_map,e];rfl
  ·exact w.elim
 ·exact w.elim
theorem Eg{K:W.Frag}:vO K J0 rP:=fun Xw F H x y dx dy Q s hx hy w=>by
 unfold rP at w
 split at w
 ·rename_i z i
  obtain⟨h1,h2⟩:=hx
  split at w
  ·rename_i c e
   exact⟨z,i,c,h1,hy,by have:=dB;omega,e,WP.now w s ⟨rfl,by show 1≤lim;decide⟩⟩
  ·exact w.elim
 ·exact w.elim
theorem kO(ha:PD X Xw a δa)(hb:PD X Xw b δb)(hs:iq b:=by intro _ _;rfl):PD X Xw (.Subscript a b pos) (d2 fI δa δb):=ym xW Ee ha hb hs
theorem Hb(ha:PD X Xw a δa)(hb:PD X Xw b δb)(hs:iq b:=by intro _ _;rfl):PD X Xw (.Subscript a b pos) (d2 AX δa δb):=ym xW Ef ha hb hs
theorem bH(ha:PD X Xw a δa)(hb:PD X Xw b δb)(hs:iq b:=by intro _ _;rfl):PD X Xw (.Subscript a b pos) (d2 bu δa δb):=ym GS Eh ha hb hs
theorem BU(ha:PD X Xw a δa)(hb:PD X Xw b δb)(hs:iq b:=by intro _ _;rfl):PD X Xw (.Subscript a b pos) (d2 rP δa δb):=ym GR Eg ha hb hs
theorem ik(x y:Str):(x++y).length=x.length+y.length:=by
 show (x.cps++y.cps).size=_
 simp[Str.length]
end
end L3
namespace L3
open PySem PySem.Spec L2 SeqAt
open PyProof.Rows hiding St
def rL(f:D→D→Option Bool):List D→List D→Option Bool
 |[],[]=>some true
 |x::xs,y::ys=>match f x y,rL f xs ys with
  |some b,some r=>some (b&&r)
  |_,_=>none
 |[],_::_=>some false
 |_::_,[]=>some false
def vY:D→D→Option Bool
 | .non, .non=>some true
 | .bl a, .bl b=>some (a==b)
 | .bl a, .int j=>some ((if a then 1 else 0)==j)
 | .int i, .bl b=>some (i==(if b then 1 else 0))
 | .int i, .int j=>some (i==j)
 | .str x, .str y=>some (x==y)
 | .non, .bl _=>some false
 | .non, .int _=>some false
 | .non, .str _=>some false
 | .non, .lst _=>some false
 | .non, .tup _=>some false
 | .bl _, .non=>some false
 | .bl _, .str _=>some false
 | .bl _, .lst _=>some false
 | .bl _, .tup _=>some false
 | .int _, .non=>some false
 | .int _, .str _=>some false
 | .int _, .lst _=>some false
 | .int _, .tup _=>some false
 | .str _, .non=>some false
 | .str _, .bl _=>some false
 | .str _, .int _=>some false
 | .str _, .lst _=>some false
 | .str _, .tup _=>some false
 | .lst _, .non=>some false
 | .lst _, .bl _=>some false
 | .lst _, .int _=>some false
 | .lst _, .str _=>some false
 | .lst _, .tup _=>some false
 | .tup _, .non=>some false
 | .tup _, .bl _=>some false
 | .tup _, .int _=>some false
 | .tup _, .str _=>some false
 | .tup _, .lst _=>some false
 |_,_=>none
def o7:Nat→D→D→Option Bool
 |n+1, .tup xs, .tup ys=>rL (o7 n) xs ys
 |n+1, .lst xs, .lst ys=>rL (o7 n) xs ys
 |n+1, .scr xs, .lst ys=>rL (o7 n) (xs.map D.int) ys
 |_,x,y=>vY x y
structure EqAll (A:Around) (s:Shared) (u v:Value) (b:Bool):Prop where
 rc:RcAt A s u v b
 ne:RcNeAt A s u v (!b)
 eq:EqAt A s u v b
section
variable{X:Cx}{pins:List (Addr×Obj)}{σ:St}{F H:Hp}{s:Shared}{A:Around}
theorem el(I:Inv X pins σ H s)(hs:Same F H){ds:List D}{v:V}{u:Value}(h:Den X.K F (.tup ds) v)(r:RelV v u):∃a vs aG,u= .ref a∧v= .ref a∧F a=some (.tup vs)∧DenL X.K F ds vs∧Vals vs aG∧s.heap.IsTuple a aG.toArray:=by
 obtain⟨a,vs,rfl,h2,h3,h4⟩:=h
 obtain⟨aG,r1,p1,_⟩:=I.tuple (SqT.of (hs _ _ h2))
 exact⟨a,vs,aG,r,rfl,h2,h3,r1,p1⟩
theorem dW(I:Inv X pins σ H s)(hs:Same F H){ds:List D}{v:V}{u:Value}(h:Den X.K F (.lst ds) v)(r:RelV v u):∃a vs aG,u= .ref a∧v= .ref a∧F a=some (.lst vs)∧DenL X.K F ds vs∧Vals vs aG∧s.heap.IsList a aG.toArray:=by
 obtain⟨a,vs,rfl,h2,h3,h4⟩:=h
 obtain⟨aG,r1,p1,_⟩:=I.list (SqL.of (hs _ _ h2))
 exact⟨a,vs,aG,r,rfl,h2,h3,r1,p1.isList⟩
theorem HG(I:Inv X pins σ H s)(hs:Same F H){ns:List Int}{v:V}{u:Value}(h:Den X.K F (.scr ns) v)(r:RelV v u):∃a aG,u= .ref a∧v= .ref a∧SqL X.K F a (ns.map V.int)∧Vals (ns.map V.int) aG∧s.heap.IsList a aG.toArray:=by
 obtain⟨a,rfl,h2,h3⟩:=h
 obtain⟨aG,r1,p1,_⟩:=I.list (Same.seq hs h2)
 exact⟨a,aG,r,rfl,h2,r1,p1.isList⟩
theorem uc(I:Inv X pins σ H s)(hs:Same F H)(hu:A.units<cLine){x y:D}{v w:V}{u t:Value}{b:Bool}(hx:Den X.K F x v)(hy:Den X.K F y w)(rx:RelV v u)(ry:RelV w t)(e:vY x y=some b):EqAll A s u t b:=by
 cases x with
 |non=>
  cases y with
  |non=>
   cases e
   cases (show _=_ from hx)
   cases rx
   cases (show _=_ from hy)
   cases ry
   exact⟨RcAt.none_none,RcNeAt.none_none,EqAt.same _⟩
  |bl d=>
   cases e
   cases (show _=_ from hx)
   cases rx
   cases (show _=_ from hy)
   cases ry
   exact⟨RcAt.none_bool _,RcNeAt.none_bool _,EqAt.none_bool _⟩
  |int d=>
   cases e
   cases (show _=_ from hx)
   cases rx
   cases (show _=_ from hy)
   obtain⟨t2,rfl⟩:=ry
   exact⟨RcAt.none_int _ _,RcNeAt.none_int _ _,EqAt.none_int _ _⟩
  |str d=>
   cases e
   cases (show _=_ from hx)
   cases rx
   cases (show _=_ from hy.1)
   obtain⟨t2,rfl⟩:=ry
   exact⟨RcAt.none_str _ _,RcNeAt.none_str _ _,EqAt.none_str _ _⟩
  |raw d=>cases e
  |dct _ _=>cases e
  |dci _ _=>cases e
  |exc d=>cases e
  |scr d=>cases e
  |tup d=>
   cases e
   cases (show _=_ from hx)
   cases rx
   obtain⟨a2,_,_,rfl,_,_,_,_,p2⟩:=el I hs hy ry
   exact⟨RcAt.none_tuple p2 hu,RcNeAt.none_tuple p2 hu,EqAt.none_tuple p2 hu⟩
  |lst d=>
   cases e
   cases (show _=_ from hx)
   cases rx
   obtain⟨a2,_,_,rfl,_,_,_,_,p2⟩:=dW I hs hy ry
   exact⟨RcAt.none_list p2 hu,RcNeAt.none_list p2 hu,EqAt.none_list p2 hu⟩
 |bl c=>
  cases y with
  |non=>
   cases e
   cases (show _=_ from hx)
   cases rx
   cases (show _=_ from hy)
   cases ry
   exact⟨RcAt.bool_none _,RcNeAt.bool_none _,EqAt.bool_none _⟩
  |bl d=>
   cases e
   cases (show _=_ from hx)
   cases rx
   cases (show _=_ from hy)
   cases ry
   exact⟨RcAt.bool_bool _ _,RcNeAt.bool_bool _ _,EqAt.bool_bool _ _⟩
  |int d=>
   cases e
   cases (show _=_ from hx)
   cases rx
   cases (show _=_ from hy)
   obtain⟨t2,rfl⟩:=ry
   exact⟨RcAt.bool_int _ _ _,RcNeAt.bool_int _ _ _,EqAt.bool_int _ _ _⟩
  |str d=>
   cases e
   cases (show _=_ from hx)
   cases rx
   cases (show _=_ from hy.1)
   obtain⟨t2,rfl⟩:=ry
   exact⟨RcAt.bool_str _ _ _,RcNeAt.bool_str _ _ _,EqAt.bool_str _ _ _⟩
  |raw d=>cases e
  |dct _ _=>cases e
  |dci _ _=>cases e
  |exc d=>cases e
  |scr d=>cases e
  |tup d=>
   cases e
   cases (show _=_ from hx)
   cases rx
   obtain⟨a2,_,_,rfl,_,_,_,_,p2⟩:=el I hs hy ry
   exact⟨RcAt.bool_tuple _ p2 hu,RcNeAt.bool_tuple _ p2 hu,EqAt.bool_tuple _ p2 hu⟩
  |lst d=>
   cases e
   cases (show _=_ from hx)
   cases rx
   obtain⟨a2,_,_,rfl,_,_,_,_,p2⟩:=dW I hs hy ry
   exact⟨RcAt.bool_list _ p2 hu,RcNeAt.bool_list _ p2 hu,EqAt.bool_list _ p2 hu⟩
 |int c=>
  cases y with
  |non=>
   cases e
   cases (show _=_ from hx)
   obtain⟨t1,rfl⟩:=rx
   cases (show _=_ from hy)
   cases ry
   exact⟨RcAt.int_none _ _,RcNeAt.int_none _ _,EqAt.int_none _ _⟩
  |bl d=>
   cases e
   cases (show _=_ from hx)
   obtain⟨t1,rfl⟩:=rx
   cases (show _=_ from hy)
   cases ry
   exact⟨RcAt.int_bool _ _ _,RcNeAt.int_bool _ _ _,EqAt.int_bool _ _ _⟩
  |int d=>
   cases e
   cases (show _=_ from hx)
   obtain⟨t1,rfl⟩:=rx
   cases (show _=_ from hy)
   obtain⟨t2,rfl⟩:=ry
   exact⟨RcAt.int_int _ _ _ _,RcNeAt.int_int _ _ _ _,EqAt.int_int _ _ _ _⟩
  |str d=>
   cases e
   cases (show _=_ from hx)
   obtain⟨t1,rfl⟩:=rx
   cases (show _=_ from hy.1)
   obtain⟨t2,rfl⟩:=ry
   exact⟨RcAt.int_str _ _ _ _,RcNeAt.int_str _ _ _ _,EqAt.int_str _ _ _ _⟩
  |raw d=>cases e
  |dct _ _=>cases e
  |dci _ _=>cases e
  |exc d=>cases e
  |scr d=>cases e
  |tup d=>
   cases e
   cases (show _=_ from hx)
   obtain⟨t1,rfl⟩:=rx
   obtain⟨a2,_,_,rfl,_,_,_,_,p2⟩:=el I hs hy ry
   exact⟨RcAt.int_tuple _ _ p2 hu,RcNeAt.int_tuple _ _ p2 hu,EqAt.int_tuple _ _ p2 hu⟩
  |lst d=>
   cases e
   cases (show _=_ from hx)
   obtain⟨t1,rfl⟩:=rx
   obtain⟨a2,_,_,rfl,_,_,_,_,p2⟩:=dW I hs hy ry
   exact⟨RcAt.int_list _ _ p2 hu,RcNeAt.int_list _ _ p2 hu,EqAt.int_list _ _ p2 hu⟩
 |str c=>
  cases y with
  |non=>
   cases e
   cases (show _=_ from hx.1)
   obtain⟨t1,rfl⟩:=rx
   cases (show _=_ from hy)
   cases ry
   exact⟨RcAt.str_none _ _,RcNeAt.str_none _ _,EqAt.str_none _ _⟩
  |bl d=>
   cases e
   cases (show _=_ from hx.1)
   obtain⟨t1,rfl⟩:=rx
   cases (show _=_ from hy)
   cases ry
   exact⟨RcAt.str_bool _ _ _,RcNeAt.str_bool _ _ _,EqAt.str_bool _ _ _⟩
  |int d=>
   cases e
   cases (show _=_ from hx.1)
   obtain⟨t1,rfl⟩:=rx
   cases (show _=_ from hy)
   obtain⟨t2,rfl⟩:=ry
   exact⟨RcAt.str_int _ _ _ _,RcNeAt.str_int _ _ _ _,EqAt.str_int _ _ _ _⟩
  |str d=>
   cases e
   cases (show _=_ from hx.1)
   obtain⟨t1,rfl⟩:=rx
   cases (show _=_ from hy.1)
   obtain⟨t2,rfl⟩:=ry
   exact⟨RcAt.str_str _ _ _ _,RcNeAt.str_str _ _ _ _,EqAt.str_str _ _ _ _⟩
  |raw d=>cases e
  |dct _ _=>cases e
  |dci _ _=>cases e
  |exc d=>cases e
  |scr d=>cases e
  |tup d=>
   cases e
   cases (show _=_ from hx.1)
   obtain⟨t1,rfl⟩:=rx
   obtain⟨a2,_,_,rfl,_,_,_,_,p2⟩:=el I hs hy ry
   exact⟨RcAt.str_tuple _ _ p2 hu,RcNeAt.str_tuple _ _ p2 hu,EqAt.str_tuple _ _ p2 hu⟩
  |lst d=>
   cases e
   cases (show _=_ from hx.1)
   obtain⟨t1,rfl⟩:=rx
   obtain⟨a2,_,_,rfl,_,_,_,_,p2⟩:=dW I hs hy ry
   exact⟨RcAt.str_list _ _ p2 hu,RcNeAt.str_list _ _ p2 hu,EqAt.str_list _ _ p2 hu⟩
 |raw _=>cases y<;>cases e
 |dct _ _=>cases y<;>cases e
 |dci _ _=>cases y<;>cases e
 |exc _=>cases y<;>cases e
 |scr c=>cases y<;>cases e
 |tup c=>
  cases y with
  |non=>
   cases e
   obtain⟨a1,_,_,rfl,_,_,_,_,p1⟩:=el I hs hx rx
   cases (show _=_ from hy)
   cases ry
   exact⟨RcAt.tuple_none p1 hu,RcNeAt.tuple_none p1 hu,EqAt.tuple_none p1 hu⟩
  |bl d=>
   cases e
   obtain⟨a1,_,_,rfl,_,_,_,_,p1⟩:=el I hs hx rx
   cases (show _=_ from hy)
   cases ry
   exact⟨RcAt.tuple_bool _ p1 hu,RcNeAt.tuple_bool _ p1 hu,EqAt.tuple_bool _ p1 hu⟩
  |int d=>
   cases e
   obtain⟨a1,_,_,rfl,_,_,_,_,p1⟩:=el I hs hx rx
   cases (show _=_ from hy)
   obtain⟨t2,rfl⟩:=ry
   exact⟨RcAt.tuple_int _ _ p1 hu,RcNeAt.tuple_int _ _ p1 hu,EqAt.tuple_int _ _ p1 hu⟩
  |str d=>
   cases e
   obtain⟨a1,_,_,rfl,_,_,_,_,p1⟩:=el I hs hx rx
   cases (show _=_ from hy.1)
   obtain⟨t2,rfl⟩:=ry
   exact⟨RcAt.tuple_str _ _ p1 hu,RcNeAt.tuple_str _ _ p1 hu,EqAt.tuple_str _ _ p1 hu⟩
  |raw d=>cases e
  |dct _ _=>cases e
  |dci _ _=>cases e
  |exc d=>cases e
  |scr d=>cases e
  |tup d=>cases e
  |lst d=>
   cases e
   obtain⟨a1,_,_,rfl,_,_,_,_,p1⟩:=el I hs hx rx
   obtain⟨a2,_,_,rfl,_,_,_,_,p2⟩:=dW I hs hy ry
   exact⟨RcAt.tuple_list p1 p2 hu,RcNeAt.tuple_list p1 p2 hu,EqAt.tuple_list p1 p2 hu⟩
 |lst c=>
  cases y with
  |non=>
   cases e
   obtain⟨a1,_,_,rfl,_,_,_,_,p1⟩:=dW I hs hx rx
   cases (show _=_ from hy)
   cases ry
   exact⟨RcAt.list_none p1 hu,RcNeAt.list_none p1 hu,EqAt.list_none p1 hu⟩
  |bl d=>
   cases e
   obtain⟨a1,_,_,rfl,_,_,_,_,p1⟩:=dW I hs hx rx
   cases (show _=_ from hy)
   cases ry
   exact⟨RcAt.list_bool _ p1 hu,RcNeAt.list_bool _ p1 hu,EqAt.list_bool _ p1 hu⟩
  |int d=>
   cases e
   obtain⟨a1,_,_,rfl,_,_,_,_,p1⟩:=dW I hs hx rx
   cases (show _=_ from hy)
   obtain⟨t2,rfl⟩:=ry
   exact⟨RcAt.list_int _ _ p1 hu,RcNeAt.list_int _ _ p1 hu,EqAt.list_int _ _ p1 hu⟩
  |str d=>
   cases e
   obtain⟨a1,_,_,rfl,_,_,_,_,p1⟩:=dW I hs hx rx
   cases (show _=_ from hy.1)
   obtain⟨t2,rfl⟩:=ry
   exact⟨RcAt.list_str _ _ p1 hu,RcNeAt.list_str _ _ p1 hu,EqAt.list_str _ _ p1 hu⟩
  |raw d=>cases e
  |dct _ _=>cases e
  |dci _ _=>cases e
  |exc d=>cases e
  |scr d=>cases e
  |tup d=>
   cases e
   obtain⟨a1,_,_,rfl,_,_,_,_,p1⟩:=dW I hs hx rx
   obtain⟨a2,_,_,rfl,_,_,_,_,p2⟩:=el I hs hy ry
   exact⟨RcAt.list_tuple p1 p2 hu,RcNeAt.list_tuple p1 p2 hu,EqAt.list_tuple p1 p2 hu⟩
  |lst d=>cases e
end
def ev(f:D→D→Option Bool)(xs ys:List D)(j:Nat):Bool:=match xs[j]?,ys[j]? with
 |some x,some y=>(f x y).getD false
 |_,_=>false
theorem ub{f:D→D→Option Bool}:∀{xs ys:List D}{b:Bool},rL f xs ys=some b→∀(j:Nat) (x y:D),xs[j]? =some x→ys[j]? =some y→∃c,f x y=some c
 |[],_,_,_,_,_,_,h,_=>by simp at h
 |_::_,[],_,_,_,_,_,_,h=>by simp at h
 |x::xs,y::ys,b,e,j,x',y',hx,hy=>by
  unfold rL at e
  split at e
  ·rename_i b1 r1 e1 e2
   cases j with
   |zero=>simp at hx hy;subst hx hy;exact⟨_,e1⟩
   |succ j=>exact ub e2 j x' y' (by simpa using hx) (by simpa using hy)
  ·cases e
theorem rN{f:D→D→Option Bool}:∀{xs ys:List D}{b:Bool},rL f xs ys=some b→b=((List.range (min xs.length ys.length)).all (ev f xs ys)&&xs.length==ys.length)
 |[],[],_,e=>by cases e;rfl
 |[],_::_,_,e=>by cases e;simp
 |_::_,[],_,e=>by cases e;simp
 |x::xs,y::ys,b,e=>by
  unfold rL at e
  split at e
  ·rename_i b1 r1 e1 e2
   cases e
   have h:=rN e2
   rw[List.length_cons,List.length_cons,Nat.succ_min_succ,List.range_succ_eq_map,List.all_cons,List.all_map]
   have e0:ev f (x::xs) (y::ys) 0=b1:=by unfold ev;simp[e1]
   have e3:(ev f (x::xs) (y::ys)∘Nat.succ)=ev f xs ys:=by funext j;simp[ev,Function.comp]
   have e4:(xs.length+1==ys.length+1)=(xs.length==ys.length):=by simp
   rw[e0,e3,e4,h,Bool.and_assoc]
  ·cases e
section
variable{X:Cx}{pins:List (Addr×Obj)}{σ:St}{F H:Hp}{s:Shared}
theorem jl{f:D→D→Option Bool}(h:∀x y v b,Den X.K F x v→Den X.K F y v→f x y=some b→b=true):∀{xs ys:List D}{vs:List V}{b:Bool},DenL X.K F xs vs→DenL X.K F ys vs→rL f xs ys=some b→b=true
 |[],[],_,_,_,_,e=>by cases e;rfl
 |[],_::_,_,_,h1,h2,_=>by
  cases (show _=_ from h1)
  obtain⟨v,r,z,_⟩:=h2
  cases z
 |_::_,[],_,_,h1,h2,_=>by
  cases (show _=_ from h2)
  obtain⟨v,r,z,_⟩:=h1
  cases z
 |x::xs,y::ys,_,b,⟨v,r,e1,q1,q2⟩,⟨v',r',e2,q3,q4⟩,e=>by
  subst e1
  cases e2
  unfold rL at e
  split at e
  ·rename_i b1 r1 f1 f2
   cases e
   rw[h x y v b1 q1 q3 f1,jl h q2 q4 f2]
   rfl
  ·cases e
theorem p_{x y:D}{v:V}{b:Bool}(hx:Den X.K F x v)(hy:Den X.K F y v)(e:vY x y=some b):b=true:=by
 cases x<;>cases y<;>first
  |(cases e;done)
  |(cases e;cases (show _=_ from hx);cases (show _=_ from hy);first | rfl | simp)
  |(cases e;cases (show _=_ from hx.1);cases (show _=_ from hy.1);simp)
  |(cases e;cases (show _=_ from hx);cases (show _=_ from hy.1))
  |(cases e;cases (show _=_ from hx.1);cases (show _=_ from hy))
  |(cases e;obtain⟨_,_,z,_⟩:=hx;subst z;cases (show _=_ from hy);done)
  |(cases e;obtain⟨_,_,z,_⟩:=hx;subst z;cases (show _=_ from hy.1);done)
  |(cases e;obtain⟨_,z,_⟩:=hx;subst z;cases (show _=_ from hy);done)
  |(cases e;obtain⟨_,z,_⟩:=hx;subst z;cases (show _=_ from hy.1);done)
  |(cases e;obtain⟨_,_,z,_⟩:=hy;subst z;cases (show _=_ from hx);done)
  |(cases e;obtain⟨_,_,z,_⟩:=hy;subst z;cases (show _=_ from hx.1);done)
  |(cases e;obtain⟨_,z,_⟩:=hy;subst z;cases (show _=_ from hx);done)
  |(cases e;obtain⟨_,z,_⟩:=hy;subst z;cases (show _=_ from hx.1);done)
  |(cases e;obtain⟨_,_,z,h2,_⟩:=hx;obtain⟨_,_,z',M4,_⟩:=hy;subst z;cases z';rw[h2] at M4;cases M4;done)
  |(cases e;cases (show _=_ from hx);cases (show _=_ from hy);done)
  |(cases e;cases (show _=_ from hx.1);cases (show _=_ from hy.1);done)
theorem jk(I:Inv X pins σ H s)(hs:Same F H):∀(n:Nat) (x y:D) (v:V) (b:Bool),Den X.K F x v→Den X.K F y v→o7 n x y=some b→b=true
 |0,x,y,v,b,hx,hy,e=>p_ hx hy (by unfold o7 at e;exact e)
 |n+1,x,y,v,b,hx,hy,e=>by
  unfold o7 at e
  split at e
  ·rename_i xs ys _
   obtain⟨a,vs,rfl,h2,h3,_⟩:=hx
   obtain⟨a',vs',z,k2,k3,_⟩:=hy
   cases z
   rw[h2] at k2
   cases k2
   exact jl (jk I hs _) h3 k3 (by simpa using e)
  ·rename_i xs ys _
   obtain⟨a,vs,rfl,h2,h3,_⟩:=hx
   obtain⟨a',vs',z,k2,k3,_⟩:=hy
   cases z
   rw[h2] at k2
   cases k2
   exact jl (jk I hs _) h3 k3 (by simpa using e)
  ·rename_i xs ys _
   obtain⟨a,rfl,h2,_⟩:=hx
   obtain⟨a',vs',z,k2,k3,_⟩:=hy
   cases z
   have hv:=I.list_inj (Same.seq hs h2) (SqL.of (hs _ _ k2))
   rw[←hv] at k3
   exact jl (jk I hs _) (DenL.ints xs) k3 (by simpa using e)
  ·exact p_ hx hy e
theorem Vals.at{vs:List V}{aG:List Value}(r:Vals vs aG){j:Nat}(h:j<aG.toArray.size):∃v,vs[j]? =some v∧RelV v aG.toArray[j]:=by
 have hl:=r.length
 have hj:j<vs.length:=by rw[List.size_toArray] at h;omega
 obtain⟨u,e1,e2⟩:=r.get (List.getElem?_eq_getElem hj)
 refine⟨vs[j],List.getElem?_eq_getElem hj,?_⟩
 have:aG.toArray[j]=u:=by
  have:=(List.getElem?_eq_some_iff.mp e1).2
  simpa using this
 rw[this]
 exact e2
theorem mE{f:D→D→Option Bool}{A:Around}{xs ys:List D}{vs ws:List V}{aG fL:List Value}{b:Bool}(h1:DenL X.K F xs vs)(h2:DenL X.K F ys ws)(r1:Vals vs aG)(r2:Vals ws fL)(e:rL f xs ys=some b)
 (ih:∀x y v w u t c,Den X.K F x v→Den X.K F y w→RelV v u→RelV w t→f x y=some c→EqAt A s u t c):
 ∀j (k1:j<aG.toArray.size) (k2:j<fL.toArray.size),EqAt A s aG.toArray[j] fL.toArray[j] (ev f xs ys j):=fun j k1 k2=>by
 obtain⟨v,e1,q1⟩:=Vals.at r1 k1
 obtain⟨w,e2,q2⟩:=Vals.at r2 k2
 obtain⟨x,e3,q3⟩:=h1.at e1
 obtain⟨y,e4,q4⟩:=h2.at e2
 obtain⟨c,hc⟩:=ub e j x y e3 e4
 have:ev f xs ys j=c:=by unfold ev;rw[e3,e4];simp[hc]
 rw[this]
 exact ih x y v w _ _ c q3 q4 q1 q2 hc
theorem qr{f:D→D→Option Bool}{A:Around}(hu:A.units<cLine){xs ys:List D}{vs ws:List V}{aG fL:List Value}{b:Bool}{a a':Addr}(h1:DenL X.K F xs vs)(h2:DenL X.K F ys ws)(r1:Vals vs aG)(r2:Vals ws fL)
 (p1:s.heap.IsList a aG.toArray)(p2:s.heap.IsList a' fL.toArray)(e:rL f xs ys=some b)(hr:a=a'→b=true)
 (ih:∀x y v w u t c,Den X.K F x v→Den X.K F y w→RelV v u→RelV w t→f x y=some c→EqAt A.in1 s u t c):EqAll A s (.ref a) (.ref a') b:=by
 have l1:=h1.len
 have l2:=h2.len
 have l3:=r1.length
 have l4:=r2.length
 have hv:=rN e
 have core:RcAt A s (.ref a) (.ref a') b∧RcNeAt A s (.ref a) (.ref a') (!b):=by
  by_cases hl:xs.length=ys.length
  ·have hsz:aG.toArray.size=fL.toArray.size:=by rw[List.size_toArray,List.size_toArray];omega
   have hb:b=(List.range aG.toArray.size).all (ev f xs ys):=by
    rw[hv,hl,Nat.min_self,beq_self_eq_true,Bool.and_true]
    congr 2
    rw[List.size_toArray];omega
   rw[hb]
   exact⟨RcAt.lists p1 p2 hsz hu (mE h1 h2 r1 r2 e ih),RcNeAt.lists p1 p2 hsz hu (mE h1 h2 r1 r2 e ih)⟩
  ·have hb:b=false:=by rw[hv,show (xs.length==ys.length)=false from by simpa using hl,Bool.and_false]
   have hsz:(aG.toArray.size !=fL.toArray.size)=true:=by
    rw[List.size_toArray,List.size_toArray]
    simp
    omega
   rw[hb]
   exact⟨RcAt.lists_lengths p1 p2 hsz hu,RcNeAt.lists_lengths p1 p2 hsz hu⟩
 refine⟨core.1,core.2,?_⟩
 by_cases hq:a=a'
 ·rw[hr hq]
  subst hq
  exact EqAt.same _
 ·exact EqAt.of_refs hq core.1
theorem xh{f:D→D→Option Bool}{A:Around}(hu:A.units<cLine){xs ys:List D}{vs ws:List V}{aG fL:List Value}{b:Bool}{a a':Addr}(h1:DenL X.K F xs vs)(h2:DenL X.K F ys ws)(r1:Vals vs aG)(r2:Vals ws fL)
 (p1:s.heap.IsTuple a aG.toArray)(p2:s.heap.IsTuple a' fL.toArray)(e:rL f xs ys=some b)(hr:a=a'→b=true)
 (ih:∀x y v w u t c,Den X.K F x v→Den X.K F y w→RelV v u→RelV w t→f x y=some c→EqAt A.in1 s u t c):EqAll A s (.ref a) (.ref a') b:=by
 have l1:=h1.len
 have l2:=h2.len
 have l3:=r1.length
 have l4:=r2.length
 have hb:b=((List.range (min aG.toArray.size fL.toArray.size)).all (ev f xs ys)&&aG.toArray.size==fL.toArray.size):=by
  rw[rN e,List.size_toArray,List.size_toArray,←l3,←l4,←l1,←l2]
 have core:RcAt A s (.ref a) (.ref a') b∧RcNeAt A s (.ref a) (.ref a') (!b):=by
  rw[hb]
  exact⟨RcAt.tuples p1 p2 hu (mE h1 h2 r1 r2 e ih),RcNeAt.tuples p1 p2 hu (mE h1 h2 r1 r2 e ih)⟩
 refine⟨core.1,core.2,?_⟩
 by_cases hq:a=a'
 ·rw[hr hq]
  subst hq
  exact EqAt.same _
 ·exact EqAt.of_refs hq core.1
theorem vZ(I:Inv X pins σ H s)(hs:Same F H):∀(n:Nat) (A:Around) (x y:D) (v w:V) (u t:Value) (b:Bool),A.units+n<cLine→Den X.K F x v→Den X.K F y w→RelV v u→RelV w t→o7 n x y=some b→EqAll A s u t b
 |0,A,x,y,v,w,u,t,b,hu,hx,hy,rx,ry,e=>uc I hs (by omega) hx hy rx ry (by unfold o7 at e;exact e)
 |n+1,A,x,y,v,w,u,t,b,hu,hx,hy,rx,ry,e=>by
  have GF:A.units<cLine:=by omega
  have Nx:A.in1.units+n<cLine:=by show A.units+1+n<cLine;omega
  have hrefl:=jk (F:=F) I hs (n+1) x y
  have ih:∀x y v w u t c,Den X.K F x v→Den X.K F y w→RelV v u→RelV w t→o7 n x y=some c→EqAt A.in1 s u t c:=fun x y v w u t c q1 q2 q3 q4 q5=>(vZ I hs n A.in1 x y v w u t c Nx q1 q2 q3 q4 q5).eq
  have e0:=e
  unfold o7 at e
  split at e
  ·rename_i xs ys heq
   cases heq
   obtain⟨a,vs,aG,rfl,IE,h2,h3,r1,p1⟩:=el I hs hx rx
   obtain⟨a',vs',its',rfl,IF,k2,k3,JV,JL⟩:=el I hs hy ry
   exact xh GF h3 k3 r1 JV p1 JL e (fun z=>by subst z;exact hrefl v b hx (by rw[IE,←IF];exact hy) e0) ih
  ·rename_i xs ys heq
   cases heq
   obtain⟨a,vs,aG,rfl,IE,h2,h3,r1,p1⟩:=dW I hs hx rx
   obtain⟨a',vs',its',rfl,IF,k2,k3,JV,JL⟩:=dW I hs hy ry
   exact qr GF h3 k3 r1 JV p1 JL e (fun z=>by subst z;exact hrefl v b hx (by rw[IE,←IF];exact hy) e0) ih
  ·rename_i xs ys heq
   cases heq
   obtain⟨a,aG,rfl,IE,h2,r1,p1⟩:=HG I hs hx rx
   obtain⟨a',vs',its',rfl,IF,k2,k3,JV,JL⟩:=dW I hs hy ry
   exact qr GF (DenL.ints _) k3 r1 JV p1 JL e (fun z=>by subst z;exact hrefl v b hx (by rw[IE,←IF];exact hy) e0) ih
  ·exact uc I hs GF hx hy rx ry e
end
def kx(x y:D):M D:=match o7 6 x y with | some b=>M.ret (.bl b) | none=>M.stuck
def ky(x y:D):M D:=match o7 6 x y with | some b=>M.ret (.bl (!b)) | none=>M.stuck
def JX(K:W.Frag):R2:=fun x y H Q=>∃F dx dy b,Same F H∧Den K F dx x∧Den K F dy y∧o7 6 dx dy=some b∧Q (.bl b) H
def J2(K:W.Frag):R2:=fun x y H Q=>∃F dx dy b,Same F H∧Den K F dx x∧Den K F dy y∧o7 6 dx dy=some b∧Q (.bl (!b)) H
section
variable{X:Cx}{Xw:Nat→Hp→Prop}{a b:Expr}{δa δb:DE}{pos:Pos}
theorem BJ(hu:X.A.units+64<cLine):OpR X (compareOp .Eq) (JX X.K):=by
 intro pins s σ H x y v u Q I rx ry h
 obtain⟨F,dx,dy,b,hs,hx,hy,e,q⟩:=h
 exact(vZ I hs 6 X.A dx dy x y v u b (by omega) hx hy rx ry e).rc _ _ _ _ ⟨.bl b,H,I,rfl,q⟩
theorem G6(hu:X.A.units+64<cLine):OpR X (compareOp .NotEq) (J2 X.K):=by
 intro pins s σ H x y v u Q I rx ry h
 obtain⟨F,dx,dy,b,hs,hx,hy,e,q⟩:=h
 exact(vZ I hs 6 X.A dx dy x y v u b (by omega) hx hy rx ry e).ne _ _ _ _ ⟨.bl (!b),H,I,rfl,q⟩
theorem BL{K:W.Frag}:vO K (JX K) kx:=fun Xw F H x y dx dy Q s hx hy w=>by
 unfold kx at w
 split at w
 ·rename_i b e
  exact⟨F,dx,dy,b,s,hx,hy,e,WP.now w s rfl⟩
 ·exact w.elim
theorem G8{K:W.Frag}:vO K (J2 K) ky:=fun Xw F H x y dx dy Q s hx hy w=>by
 unfold ky at w
 split at w
 ·rename_i b e
  exact⟨F,dx,dy,b,s,hx,hy,e,WP.now w s rfl⟩
 ·exact w.elim
theorem u4(hu:X.A.units+64<cLine)(ha:PD X Xw a δa)(hb:PD X Xw b δb):o6 X Xw (.Compare a [.Eq] [b] pos) (cY (d2 kx δa δb)):=gp (BJ hu) BL ha hb
theorem g6(hu:X.A.units+64<cLine)(ha:PD X Xw a δa)(hb:PD X Xw b δb):o6 X Xw (.Compare a [.NotEq] [b] pos) (cY (d2 ky δa δb)):=gp (G6 hu) G8 ha hb
theorem uY(hu:X.A.units+64<cLine)(ha:PD X Xw a δa)(hb:PD X Xw b δb):PD X Xw (.Compare a [.Eq] [b] pos) (d2 kx δa δb):=BR (BJ hu) BL ha hb
end
def PDW(X:Cx)(Xw:Nat→Hp→Prop)(e:Expr)(δ:DT):Prop:=PW X e (Mz X.K Xw δ)
theorem PW.weak{X:Cx}{e:Expr}{t t':TT}(h:PW X e t)(k:∀σ H Q,t' σ H Q→t σ H Q):PW X e t':=fun wh pins s σ H Q I w=>h wh pins s σ H Q I (k σ H Q w)
section
variable{X:Cx}{Xw:Nat→Hp→Prop}{a b c:Expr}{rest:List Expr}{δa δb δc:DE}{τa τb:DT}{pos:Pos}
theorem oz(ha:o6 X Xw a τa):PDW X Xw (.BoolOp .And [a] pos) τa:=EJ ha
theorem fj(ha:o6 X Xw a τa):PDW X Xw (.BoolOp .Or [a] pos) τa:=Hy ha
theorem sG(ha:o6 X Xw a τa)(hb:PDW X Xw (.BoolOp .And (b::rest) pos) τb):PDW X Xw (.BoolOp .And (a::b::rest) pos) (ph τa τb):=PW.weak (Hx ha hb) fun σ H Q ⟨F,ρ,s,w⟩=>by
 refine⟨F,ρ,s,WPB.mono (WPB.bindB w) fun v H1 ⟨F1,e1,w1⟩=>?_⟩
 cases v with
 |true=>exact⟨F1,ρ,s.ext e1,w1⟩
 |false=>exact w1 _ _ (Ext.refl e1.fh)
theorem fq(ha:o6 X Xw a τa)(hb:PDW X Xw (.BoolOp .Or (b::rest) pos) τb):PDW X Xw (.BoolOp .Or (a::b::rest) pos) (i6 τa τb):=PW.weak (JU ha hb) fun σ H Q ⟨F,ρ,s,w⟩=>by
 refine⟨F,ρ,s,WPB.mono (WPB.bindB w) fun v H1 ⟨F1,e1,w1⟩=>?_⟩
 cases v with
 |false=>exact⟨F1,ρ,s.ext e1,w1⟩
 |true=>exact w1 _ _ (Ext.refl e1.fh)
theorem PDW.t(h:PDW X Xw a τa):o6 X Xw a τa:=PW.pt h
theorem dG(ha:o6 X Xw a τa):o6 X Xw (.UnaryOp .Not a pos) (cN τa):=PT.weak (Hv ha) fun σ H Q ⟨F,ρ,s,w⟩=>
 ⟨F,ρ,s,WPB.mono (WPB.bindB w) fun v H1 ⟨F1,e1,w1⟩=>w1 _ _ (Ext.refl e1.fh)⟩
def vz:D→M Bool
 | .non=>M.ret false
 | .bl b=>M.ret b
 | .lst ds=>M.ret (!ds.isEmpty)
 | .tup ds=>M.ret (!ds.isEmpty)
 |_=>M.stuck
def bW(δ:DE):DT:=fun ρ=>δ ρ>>=vz
theorem DenL.isEmpty{K:W.Frag}{F:Hp}{ds:List D}{vs:List V}(h:DenL K F ds vs):ds.isEmpty=vs.isEmpty:=by
 have:=h.len
 cases ds<;>cases vs<;>simp_all
theorem df(ha:PD X Xw a δa)(he:∀whole,isTrue a X.env whole=(do let v←whole;standAt a.pos;holding [v] (truthy v)):=by intro _;rfl):o6 X Xw a (bW δa):=PT.weak (Cg ha he) fun σ H Q ⟨F,ρ,s,w⟩=>by
 refine⟨F,ρ,s,WP.mono (WPB.bind (K:=X.K) w) fun v H1 ⟨F1,d,e1,q1,w1⟩=>?_⟩
 cases d with
 |non=>cases (show _=_ from q1);exact⟨false,rfl,w1 _ _ (Ext.refl e1.fh)⟩
 |bl b=>cases (show _=_ from q1);exact⟨b,rfl,w1 _ _ (Ext.refl e1.fh)⟩
 |lst ds=>
  obtain⟨a,vs,rfl,h2,h3,_⟩:=q1
  exact⟨!ds.isEmpty, .inl ⟨vs,SqL.of (e1.fh _ _ h2),by rw[h3.isEmpty]⟩,w1 _ _ (Ext.refl e1.fh)⟩
 |tup ds=>
  obtain⟨a,vs,rfl,h2,h3,_⟩:=q1
  exact⟨!ds.isEmpty, .inr (.inl ⟨vs,SqT.of (e1.fh _ _ h2),by rw[h3.isEmpty]⟩),w1 _ _ (Ext.refl e1.fh)⟩
 |_=>exact w1.elim
theorem wQ{op}(h:PD X Xw a δa):PD X Xw (.BoolOp op [a] pos) δa:=Hk h
theorem sA(ha:PD X Xw a δa)(hb:PD X Xw (.BoolOp .And (b::rest) pos) δb):PD X Xw (.BoolOp .And (a::b::rest) pos) (eL δa δb):=PE.weak (Hf ha hb) fun σ H Q ⟨F,ρ,s,w⟩=>by
 refine⟨F,ρ,s,WP.mono (WP.bind w) fun v H1 ⟨F1,d,e1,q1,w1⟩=>?_⟩
 cases d with
 |bl k=>
  refine⟨k,q1,?_⟩
  cases k with
  |true=>exact⟨F1,ρ,s.ext e1,w1⟩
  |false=>exact WP.now w1 e1.fh rfl
 |_=>exact w1.elim
theorem Hd(ha:PD X Xw a δa):PD X Xw (.UnaryOp .Not a pos) (Fd δa):=PE.weak (Hj ha) fun σ H Q ⟨F,ρ,s,w⟩=>by
 refine⟨F,ρ,s,WP.mono (WP.bind w) fun v H1 ⟨F1,d,e1,q1,w1⟩=>?_⟩
 cases d with
 |bl k=>exact⟨k,q1,WP.now w1 e1.fh rfl⟩
 |_=>exact w1.elim
def vV(p q:Int→Int→Bool)(a b c:DE):DE:=fun ρ=>a ρ>>=fun x=>b ρ>>=fun y=>match x,y with
 | .int i, .int j=>if p i j then c ρ>>=fun z=>gI (fun i j=> .bl (q i j)) y z else M.ret (.bl false)
 |_,_=>M.stuck
theorem rf{p q:Int→Int→Bool}:∀σ H Q,tD X.K Xw (vV p q δa δb δc) σ H Q→xg (wV fun i j=> .bl (p i j)) (wV fun i j=> .bl (q i j)) (tD X.K Xw δa) (tD X.K Xw δb) (tD X.K Xw δc) σ H Q:=fun σ H Q ⟨F,ρ,s,w⟩=>by
 refine⟨F,ρ,s,WP.mono (WP.bind w) fun v H1 ⟨F1,d,e1,q1,w1⟩=>?_⟩
 refine⟨F1,ρ,s.ext e1,WP.mono (WP.bind w1) fun u H2 ⟨F2,d',e2,q2,w2⟩=>?_⟩
 cases d with
 |int i=>
  cases d' with
  |int j=>
   refine⟨i,j,q1,q2,p i j,rfl,?_⟩
   have w2:WP X.K Xw F2 H2 (if p i j then δc ρ>>=fun z=>gI (fun i j=> .bl (q i j)) (.int j) z else M.ret (.bl false)) Q:=w2
   cases hp:p i j with
   |false=>
    rw[hp] at w2
    exact WP.now w2 e2.fh rfl
   |true=>
    rw[hp] at w2
    refine⟨F2,ρ,(s.ext e1).ext e2,WP.mono (WP.bind w2) fun u' H3 ⟨F3,NW,e3,q3,w3⟩=>?_⟩
    exact qE (K:=X.K) (gv:=fun i j=> .bl (q i j)) (gd:=fun i j=> .bl (q i j)) (fun _ _ _=>rfl) Xw F3 H3 u u' (.int j) NW Q e3.fh q2 q3 w3
  |_=>exact w2.elim
 |_=>exact w2.elim
theorem BQ{op wI:CmpOp}{p q:Int→Int→Bool}(ho:OpR X (compareOp op) (wV fun i j=> .bl (p i j)))(qd:OpR X (compareOp wI) (wV fun i j=> .bl (q i j)))(ha:PD X Xw a δa)(hb:PD X Xw b δb)(hc:PD X Xw c δc)
 (hm:lastMarks [op,wI] [b,c]=false:=by with_unfolding_all rfl):PD X Xw (.Compare a [op,wI] [b,c] pos) (vV p q δa δb δc):=PE.weak (B3 ho qd ha hb hc hm) rf
theorem Ce{op wI:CmpOp}{p q:Int→Int→Bool}(ho:OpR X (compareOp op) (wV fun i j=> .bl (p i j)))(qd:OpR X (compareOp wI) (wV fun i j=> .bl (q i j)))(ha:PD X Xw a δa)(hb:PD X Xw b δb)(hc:PD X Xw c δc)
 (hm:lastMarks [op,wI] [b,c]=false:=by with_unfolding_all rfl):o6 X Xw (.Compare a [op,wI] [b,c] pos) (cY (vV p q δa δb δc)):=PT.weak (Cf ho qd ha hb hc hm) fun σ H Q ⟨F,ρ,s,w⟩=>by
 refine rf σ H _ ⟨F,ρ,s,WP.mono (WPB.bind w) fun v H1 ⟨F1,d,e1,q1,w1⟩=>?_⟩
 cases d with
 |bl k=>exact⟨k,q1,w1 _ _ (Ext.refl e1.fh)⟩
 |_=>exact w1.elim
def tM(K:W.Frag)(r:List V→Hp→VK→Prop)(g:List D→M D):Prop:=∀(Xw:Nat→Hp→Prop) (F H:Hp) (vs:List V) (ds:List D) (Q:VK),Same F H→DenL K F ds vs→WP K Xw F H (g ds) Q→r vs H Q
variable{x:Str}{p:Pos}{e:Expr}{es:List Expr}{δs:DA}{id T:String}{r:List V→Hp→VK→Prop}{g:List D→M D}
theorem CO(h:tM X.K r g):∀σ H Q,tD X.K Xw (dA g δs) σ H Q→Mx r (NP X.K Xw δs) σ H Q:=fun σ H Q ⟨F,ρ,s,w⟩=>
 ⟨F,ρ,s,WPL.mono (WP.bindL w) fun vs H1 ⟨F1,ds,e1,q1,w1⟩=>h Xw F1 H1 vs ds Q e1.fh q1 w1⟩
theorem dF(hc:CallR X (.builtin id) r)(hd:tM X.K r g)(hg:Gl X x)(hm:X.mg x=none)(hv:bootBuiltins x=some (.builtin id))(ha:mC X Xw (e::es) δs)(hn:x≠"__name__":=by decide)(rQ:(x==("__debug__":Str))=false:=by decide)
 (he:starEach (e::es) X.env=(false,eval e X.env)::starEach es X.env:=by rfl)(nk:(backTo pos (starEach es X.env)).any (·.1)=false:=by rfl):PD X Xw (.Call (.Name x p) (e::es) [] pos) (dA g δs):=
 PE.weak (B2 hc hg hm hv ha hn rQ he nk) (CO hd)
theorem zG(hc:CallR X (.type T) r)(hd:tM X.K r g)(hg:Gl X x)(hm:X.mg x=none)(hv:bootBuiltins x=some (.type T))(ha:mC X Xw (e::es) δs)(hn:x≠"__name__":=by decide)(rQ:(x==("__debug__":Str))=false:=by decide)
 (he:starEach (e::es) X.env=(false,eval e X.env)::starEach es X.env:=by rfl)(nk:(backTo pos (starEach es X.env)).any (·.1)=false:=by rfl):PD X Xw (.Call (.Name x p) (e::es) [] pos) (dA g δs):=
 PE.weak (zJ hc hg hm hv ha hn rQ he nk) (CO hd)
def aU:List D→M D
 |[.lst ds]=>M.ret (.int ds.length)
 |[.tup ds]=>M.ret (.int ds.length)
 |[.str x]=>M.ret (.int x.length)
 |[.scr ns]=>M.ret (.int ns.length)
 |_=>M.stuck
theorem zk:tM X.K (fun xs H Q=>(∃p ys,xs=[.ref p]∧(SqL X.K H p ys∨SqT X.K H p ys)∧Q (.int ys.length) H)∨∃z,xs=[.str z]∧z.length≤sizeLine∧Q (.int z.length) H) aU:=fun Xw F H vs ds Q s h w=>by
 unfold aU at w
 split at w
 ·obtain⟨v,rfl,h1⟩:=h.one
  obtain⟨a,vs,rfl,h2,h3,_⟩:=h1
  exact .inl ⟨a,vs,rfl, .inl (SqL.of (s _ _ h2)),by rw[←h3.len];exact WP.now w s rfl⟩
 ·obtain⟨v,rfl,h1⟩:=h.one
  obtain⟨a,vs,rfl,h2,h3,_⟩:=h1
  exact .inl ⟨a,vs,rfl, .inr (SqT.of (s _ _ h2)),by rw[←h3.len];exact WP.now w s rfl⟩
 ·obtain⟨v,rfl,h1⟩:=h.one
  cases (show _=_ from h1.1)
  exact .inr ⟨_,rfl,by have:=h1.2;have:=dB;omega,WP.now w s rfl⟩
 ·obtain⟨v,rfl,h1⟩:=h.one
  obtain⟨a,rfl,h2,_⟩:=h1
  exact .inl ⟨a,_,rfl, .inl (Same.seq s h2),by rw[List.length_map];exact WP.now w s rfl⟩
 ·exact w.elim
theorem aZ(hg:Gl X "len")(hm:X.mg "len"=none)(ha:mC X Xw [e] δs)(he:starEach [e] X.env=[(false,eval e X.env)]:=by rfl):PD X Xw (.Call (.Name "len" p) [e] [] pos) (dA aU δs):=
 dF (rD.or rE) zk hg hm PySem.boot_len ha (by decide) (by decide) he rfl
def Ai:List D→M D
 |[.int i]=>M.ret (.int (if i<0 then -i else i))
 |_=>M.stuck
def wt:List D→M D
 |[.int i, .int j]=>M.ret (.int (if j>i then j else i))
 |_=>M.stuck
def zt:List D→M D
 |[.int i, .int j]=>M.ret (.int (if j<i then j else i))
 |_=>M.stuck
theorem BP(hg:Gl X "abs")(hm:X.mg "abs"=none)(ha:mC X Xw [e] δs)(hb:bootBuiltins "abs"=some (.builtin "abs"))(he:starEach [e] X.env=[(false,eval e X.env)]:=by rfl):PD X Xw (.Call (.Name "abs" p) [e] [] pos) (dA Ai δs):=
 dF Av (fun Xw F H vs ds Q s h w=>by
  unfold Ai at w
  split at w
  ·obtain⟨v,rfl,h1⟩:=h.one
   cases (show _=_ from h1)
   exact⟨_,rfl,WP.now w s rfl⟩
  ·exact w.elim) hg hm hb ha (by decide) (by decide) he rfl
end
theorem WP.xw{K:W.Frag}{Xw Xw':Nat→Hp→Prop}{F H:Hp}{m:M D}{Q:VK}(h:WP K Xw F H m Q)(k:∀n H,Xw n H→Xw' n H):WP K Xw' F H m Q:=by
 match m,h with
 |none,h=>exact h
 |some (.ok d),h=>exact h
 |some (.ex n),h=>exact fun F' H' e=>k n H' (h F' H' e)
theorem eD{X:Cx}{Xw:Nat→Hp→Prop}{st:Stmt}{τ:DS}(h:iL X.nox (fun _ _=>False) st τ):iL X Xw st (fun ρ=>noex (τ ρ)):=fun F₀ H₀ pins s σ H D I ⟨F,ρ,S,w⟩=>by
 have w:WPS X.K Xw F₀ H₀ (noex (τ ρ)) D:=w
 have w':tS X.K (fun _ _=>False) F₀ H₀ τ D σ H:=by
  refine⟨F,ρ,S,?_⟩
  rcases(τ ρ).cs with e | ⟨n,e⟩ | ⟨o,e⟩
  ·rw[e] at w;exact w.elim
  ·rw[e] at w;exact w.elim
  ·rw[e] at w⊢
   cases o with
   |nx ρ'=>exact w
   |rt d=>exact w
 refine wpAny_mono (h F₀ H₀ pins s σ H D (I.wish _) w') (fun f s' q=>SP.unwish q) fun _ _ z=>z.elim
def EX(cv:Nat→Value)(Xw:Nat→Hp→Prop):XK:=fun c _ H=>∃n,c=cv n∧Xw n H
def Ie(K:W.Frag)(cv:Nat→Value)(k:Nat)(f:List D→M D):Sp:=fun vs H Q E=>∃F ds,Same F H∧DenL K F ds vs∧vs.length=k∧WP K (fun n H'=>E (cv n) none H') F H (f ds) Q
def bV(n:Nat)(τ:DS):List D→M D:=fun ds=>τ (ds.map (fun d=>some (Sl.fz d))++List.replicate (n - ds.length) none)>>=fun o=>match o with
 | .nx _=>M.ret .non
 | .rt d=>M.ret d
section
variable{P:Program}{w:World}{K:W.Frag}{mg:Str→Option Value}{base:Heap}{CX:vN}{cv:Nat→Value}
theorem IG{x qual:Str}{st:Stmt}{f:Addr}{fd:FuncData}{N ps:List Str}{k:Nat}{τ:DS}(Fn:Fun K x qual st f fd)(S:FnScope N ps (af st))
 (ng:∀(bC:Value) (A:Around) (outer:List Env) (s:Shared) (H:Hp) (E:XK),Room k (A.deeper (envOfC qual (af st) s.heap.objs.size f bC))→
  PSDs (d_ CX P w K mg base N qual (af st) f bC A outer s H E) (fun n H'=>E (cv n) none H') (bf st) τ):FnOk P w K mg base CX (k+1) f fd ps (Ie K cv ps.length (bV N.length τ)):=by
 obtain⟨oc,od,kV,doc,pm,an,bC,ct,Ej,rfl,lk,vK⟩:=Fn.ex
 refine Fm lk vK S (fun vs H Q E ⟨_,_,_,_,hl,_⟩=>hl) fun A outer s H vs Q E hr Dd=>?_
 obtain⟨F,ds,fh,hd,hl,hw⟩:=Dd
 refine⟨_,ng bC A outer s H E hr F H,F,ds.map (fun d=>some (Sl.fz d))++List.replicate (N.length - ds.length) none,⟨Ext.refl fh,⟨fh,fun i sl e=>?_⟩,?_,fun i c a e=>?_,fun i j c c' a e=>?_⟩,?_⟩
 ·have hlen:=hd.len
  by_cases hi:i<ds.length
  ·rw[List.getElem?_append_left (by simpa using hi),List.getElem?_map] at e
   cases q:ds[i]? with
   |none=>rw[q] at e;cases e
   |some d=>
    rw[q] at e
    cases e
    obtain⟨v,e1,e2⟩:=hd.get q
    refine⟨v,?_,e2⟩
    unfold L2.start
    rw[List.getElem?_append_left (by simp;omega),List.getElem?_map,e1]
    rfl
  ·rw[List.getElem?_append_right (by simpa using hi),List.getElem?_replicate] at e
   split at e<;>cases e
 ·have hlen:=hd.len
  unfold L2.start
  simp[hlen]
 ·exfalso
  by_cases hi:i<ds.length
  ·rw[List.getElem?_append_left (by simpa using hi),List.getElem?_map] at e
   cases q:ds[i]? with
   |none=>rw[q] at e;cases e
   |some d=>rw[q] at e;cases e
  ·rw[List.getElem?_append_right (by simpa using hi),List.getElem?_replicate] at e
   split at e<;>cases e
 ·exfalso
  by_cases hi:i<ds.length
  ·rw[List.getElem?_append_left (by simpa using hi),List.getElem?_map] at e
   cases q:ds[i]? with
   |none=>rw[q] at e;cases e
   |some d=>rw[q] at e;cases e
  ·rw[List.getElem?_append_right (by simpa using hi),List.getElem?_replicate] at e
   split at e<;>cases e
 ·have hw:WP K (fun n H'=>E (cv n) none H') F H (τ (ds.map (fun d=>some (Sl.fz d))++List.replicate (N.length - ds.length) none)>>=fun o=>match o with | .nx _=>M.ret .non | .rt d=>M.ret d) Q:=hw
  rcases(τ (ds.map (fun d=>some (Sl.fz d))++List.replicate (N.length - ds.length) none)).cs with e | ⟨n,e⟩ | ⟨o,e⟩
  ·rw[e] at hw;exact hw.elim
  ·rw[e] at hw⊢;exact hw
  ·rw[e] at hw⊢
   cases o with
   |nx ρ'=>exact fun σ' F' H' s'=>hw .non H' F' s'.ext rfl
   |rt d=>exact fun v F' H' e' q=>hw v H' F' e' q
end
section
variable{X:Cx}{Xw:Nat→Hp→Prop}{CX:vN}{cv:Nat→Value}{k m:Nat}{f:Addr}{fd:FuncData}{ps:List Str}{g:List D→M D}{x:Str}{p pos:Pos}{e:Expr}{es:List Expr}{δs:DA}
theorem Ek(F:FnOk X.prog X.w X.K X.mg X.base CX k f fd ps (Ie X.K cv m g))(hr:Room k X.A)(hg:Gl X x)(hm:X.mg x=some (.ref f))(hk:PySem.W.keepIn X.K (.ref f)=true)(hb:Binds X.K fd ps [])(hx:Passes CX X (EX cv Xw))
 (ha:mC X Xw (e::es) δs)(hl:(e::es).length=m)(rQ:(x==("__debug__":Str))=false:=by decide)(he:starEach (e::es) X.env=(false,eval e X.env)::starEach es X.env:=by rfl)(nk:(backTo pos (starEach es X.env)).any (·.1)=false:=by rfl):
 PD X Xw (.Call (.Name x p) (e::es) [] pos) (fun ρ=>δs ρ>>=fun ds=>if ds.length=m then g ds else M.stuck):=PE.weak (Es F hr hg hm hk hb .nil hx ha rQ he nk) fun σ H Q ⟨F,ρ,s,w⟩=>by
 refine⟨F,ρ,s,WPL.mono (WP.bindL w) fun vs H1 ⟨F1,ds,e1,q1,w1⟩=>?_⟩
 split at w1
 ·rename_i Ab
  refine⟨F1,ds,e1.fh,by simpa using q1,by rw[List.append_nil,←q1.len];exact Ab,WP.xw w1 fun n H h=>⟨n,rfl,h⟩⟩
 ·exact w1.elim
theorem yl{x:Str}{d:D}{v:V}{u:Value}(hg:Gl X x)(hm:X.mg x=some u)(r:RelV v u)(hd:∀F,Den X.K F d v)(rQ:(x==("__debug__":Str))=false:=by decide):PD X Xw (.Name x pos) (dC d):=
 fQ (Ew hg hm r rQ) hd
end
theorem obj_some{P:Program}{w:World}{H:Hp}{h:Heap}{a:Addr}{o:HO}(x:ObjOk P w H h a o):∃ob,h.get? a=some ob:=by
 cases o with
 |lst xs=>obtain⟨_,_,_,_,e⟩:=x;exact⟨_,e⟩
 |tup xs=>obtain⟨_,_,_,ob,e,_⟩:=x;exact⟨_,e⟩
 |dK aw=>obtain⟨_,_,_,_,o,_,_,e,_⟩:=x;exact⟨_,e⟩
 |dT aw=>obtain⟨_,_,_,_,o,_,_,e,_⟩:=x;exact⟨_,e⟩
 |set S n=>obtain⟨o,_,_,_,e,_⟩:=x;exact⟨_,e⟩
 |ins C dx fs=>obtain⟨_,_,_,e,_⟩:=x;exact⟨_,e⟩
 |own y=>obtain⟨_,e⟩:=x;exact⟨_,e⟩
 |xd fs=>obtain⟨_,⟨_,_,_,e,_⟩,_⟩:=x;exact⟨_,e⟩
 |rng lo hi=>obtain⟨_,_,_,e⟩:=x;exact⟨_,e⟩
 |frz ob u=>obtain⟨e,_⟩:=x;exact⟨_,e⟩
 |tbl ps=>exact⟨_,(show h.get? a=some _ from x)⟩
 |met f y=>exact⟨_,(show h.get? a=some _ from x)⟩
 |ext φ=>obtain⟨_,⟨_,e⟩,_⟩:=x;exact⟨_,e⟩
def lr(P:Program)(w:World)(cv:Nat→Value):vN:=fun outer H s E e s'=>∃(ea:Addr) (n:Nat) (a0:Value) (B:Heap) (H':Hp),e= .ref ea∧s'.os=s.os∧AllBare s'.gens∧HOk P w H' s'.heap∧Un (mG outer) [] H H' s.heap s'.heap∧
 Heap.FlyingW B outer ea (cv n) a0 s'.heap∧(∀b o,s'.heap.get? b=some o→(H' b≠none∨(s.heap.get? b).isSome=true)→b∉mG outer→B.get? b=some o)∧E (cv n) none H'
section
variable{P:Program}{w:World}{fs:List Addr}{H₀ H:Hp}{h₀ h h':Heap}
theorem E5(u:Un fs [] H₀ H h₀ h)(ka:∀b o,h.get? b=some o→b∉fs→(H b≠none∨(h₀.get? b).isSome=true)→h'.get? b=some o)(kb:∀b o,h.get? b=some o→b∈fs→∃sl,h'.get? b=some {o with slots:=sl}):Un fs [] H₀ H h₀ h' where
 keep:=fun b o e n hb hx=>ka b o (u.keep b o e n hb hx) hb (.inr (by rw[e];rfl))
 slot:=fun b o e n hb hx=>by
  obtain⟨sl,q⟩:=u.slot b o e n hb hx
  obtain⟨HI,q'⟩:=kb b _ q hb
  exact⟨HI,q'⟩
 free:=u.free
 there:=fun b o e hx=>by
  obtain⟨o',q⟩:=u.there b o e hx
  by_cases hb:b∈fs
  ·obtain⟨sl,q'⟩:=kb b _ q hb
   exact⟨_,q'⟩
  ·exact⟨o',ka b o' q hb (.inr (by rw[e];rfl))⟩
 tups:=u.tups
 frzs:=u.frzs
 tbls:=u.tbls
theorem A_(x:HOk P w H h)(hf:∀b∈fs,H b=none)(ka:∀b o,h.get? b=some o→b∉fs→H b≠none→h'.get? b=some o):HOk P w H h':=fun a o e=>by
 refine(x a o e).stay (fun b u hb q=>ka b u q (fun z=>?_) ?_) (fun _ q=>q) fun _ _ q=>q
 ·have hz:=hf b z
  rcases hb with rfl | hb
  ·rw[hz] at e;cases e
  ·rw[hz] at hb;cases hb
 ·rcases hb with rfl | hb
  ·rw[e];exact fun z=>nomatch z
  ·rw[hb];exact fun z=>nomatch z
end
section
variable{P:Program}{w:World}{K:W.Frag}{mg:Str→Option Value}{base:Heap}{N:List Str}{qual:Str}{scope:Scope}{f:Addr}{cd:Value}{A:Around}{outer:List Env}{s₀:Shared}{H₀:Hp}{E:XK}{cv:Nat→Value}
theorem a9:Passes (lr P w cv) (d_ (lr P w cv) P w K mg base N qual scope f cd A outer s₀ H₀ E) (EX cv fun n H'=>E (cv n) none H'):=by
 intro pins σ H s e s' I ⟨ea,n,a0,B,H',he,uh,hg,hok,un,MZ,hB,m,hm,hE⟩
 subst he
 have Gr:((d_ (lr P w cv) P w K mg base N qual scope f cd A outer s₀ H₀ E)).env.locals=s₀.heap.objs.size:=rfl
 have DN:mG ((d_ (lr P w cv) P w K mg base N qual scope f cd A outer s₀ H₀ E)).stack=s₀.heap.objs.size::mG outer:=rfl
 show wpAny (model P w) (A.deeper (envOfC qual scope s₀.heap.objs.size f cd)) (leaving (envOfC qual scope s₀.heap.objs.size f cd) (.ref ea)) _ _ s'
 refine wpAny_leaves_onW (base:=B) (outer:=outer) (L:=s₀.heap.objs.size) I.ok.frames rfl MZ fun h' F9 ups=>?_
 have Fu:∀b∈mG ((d_ (lr P w cv) P w K mg base N qual scope f cd A outer s₀ H₀ E)).stack,H' b=none:=fun b hb=>by
  obtain⟨o,ho⟩:∃o,s.heap.get? b=some o:=by
   obtain⟨_,o,ho,_⟩:=I.stack.mem hb
   exact⟨o,ho⟩
  exact un.free b o ho (I.stkFree b hb) (by simp)
 have FA:∀b o,s'.heap.get? b=some o→b∉mG ((d_ (lr P w cv) P w K mg base N qual scope f cd A outer s₀ H₀ E)).stack→(H' b≠none∨(s.heap.get? b).isSome=true)→h'.get? b=some o:=fun b o e hb hc=>F9.1 b o (hB b o e hc hb)
 have unA:Un (mG outer) [] H₀ H' s₀.heap s'.heap:=by
  have u1:Un (mG outer) [] H₀ H s₀.heap s.heap:=I.base
  refine⟨fun b o e nn hb hx=>?_,fun b o e nn hb hx=>?_,fun b o e nn hx=>?_,fun b o e hx=>?_,fun b xs q=>un.tups b xs (u1.tups b xs q),fun b o u q=>un.frzs b o u (u1.frzs b o u q),fun b ps q=>?_⟩
  ·refine un.keep b o (u1.keep b o e nn hb hx) (u1.free b o e nn hx) (fun z=>?_) (by simp)
   rw[DN] at z
   rcases List.mem_cons.mp z with z | z
   ·exact absurd (Heap.lt_size e) (by rw[z];exact Nat.lt_irrefl _)
   ·exact hb z
  ·obtain⟨sl,q⟩:=u1.slot b o e nn hb hx
   obtain⟨HI,q'⟩:=un.slot b _ q (u1.free b o e nn hx) (by rw[DN];exact List.mem_cons_of_mem _ hb) (by simp)
   exact⟨HI,q'⟩
  ·obtain⟨o',q⟩:=u1.there b o e hx
   exact un.free b o' q (u1.free b o e nn hx) (by simp)
  ·obtain⟨o',q⟩:=u1.there b o e hx
   exact un.there b o' q (by simp)
  ·obtain⟨m1,q1⟩:=u1.tbls b ps q
   obtain⟨m2,q2⟩:=un.tbls b _ q1
   exact⟨m1++m2,by rw[q2,Array.append_assoc]⟩
 have NA:∀b,(s₀.heap.get? b).isSome=true→(s.heap.get? b).isSome=true:=fun b hb=>by
  obtain⟨o,ho⟩:=Option.isSome_iff_exists.mp hb
  obtain⟨o',q⟩:=(show Un (mG outer) [] H₀ H s₀.heap s.heap from I.base).there b o ho (by simp)
  rw[q];rfl
 have Mg:∀b,(s₀.heap.get? b).isSome=true→b≠s₀.heap.objs.size:=fun b hb z=>by
  obtain⟨o,ho⟩:=Option.isSome_iff_exists.mp hb
  exact absurd (Heap.lt_size ho) (by rw[z];exact Nat.lt_irrefl _)
 have JF:∀b,b∉mG outer→(H' b≠none∨(s₀.heap.get? b).isSome=true)→b∉mG ((d_ (lr P w cv) P w K mg base N qual scope f cd A outer s₀ H₀ E)).stack:=fun b hb hc z=>by
  rcases hc with hc | hc
  ·exact hc (Fu b z)
  ·rw[DN] at z
   rcases List.mem_cons.mp z with z | z
   ·exact Mg b hc z
   ·exact hb z
 refine⟨ea,n,a0,B,H',rfl,uh.trans I.os,hg,A_ hok Fu (fun b o e hb hc=>FA b o e hb (.inl hc)),E5 unA (fun b o e hb hc=>FA b o e (JF b hb hc) (hc.imp id (NA b))) (fun b o e hb=>?_),F9,fun b o e hc hb=>?_,?_⟩
 ·obtain⟨_,o',qd,hd⟩:=MZ.2.2.1.mem (show b∈mG ((d_ (lr P w cv) P w K mg base N qual scope f cd A outer s₀ H₀ E)).stack by rw[DN];exact List.mem_cons_of_mem _ hb)
  rw[e] at qd
  cases qd
  exact ups b o e hd
 ·have Lq:=JF b hb hc
  obtain⟨o',qd⟩:∃o',s'.heap.get? b=some o':=by
   rcases hc with hc | hc
   ·cases q:H' b with
    |none=>exact absurd q hc
    |some u=>
     exact obj_some (hok b u q)
   ·obtain⟨o1,h1⟩:=Option.isSome_iff_exists.mp hc
    exact unA.there b o1 h1 (by simp)
  have:=hB b o' qd (hc.imp id (NA b)) Lq
  rw[F9.1 b o' this] at e
  cases e
  exact this
 ·rw[hm];exact hE
end
section
variable{X:Cx}{Xw:Nat→Hp→Prop}{cv:Nat→Value}{n:Nat}{C:Addr}{x:Str}{np bp pos:Pos}{e:Expr}{es:List Expr}{δs:DA}{bm:List Value}{B newId L_:String}
end
def FC:D→Option String
 | .non=>some "NoneType"
 | .bl _=>some "bool"
 | .int _=>some "int"
 | .str _=>some "str"
 | .tup _=>some "tuple"
 | .lst _=>some "list"
 |_=>none
def GP(k T:String):Option Bool:=if T="str"∨T="int"∨T="bool"∨T="tuple"∨T="list" then some (decide (k=T)||(decide (k="bool")&&decide (T="int"))) else none
def gK:List D→M D
 |[d, .raw (.ty T)]=>match FC d with
  |some k=>match GP k T with
   |some b=>M.ret (.bl b)
   |none=>M.stuck
  |none=>M.stuck
 |_=>M.stuck
theorem GZ{K:W.Frag}{k T:String}{b:Bool}(hk:k="NoneType"∨k="bool"∨k="int"∨k="str"∨k="tuple"∨k="list")(h:GP k T=some b):PySem.W.kitOne K (.type k) (.type T)=some b:=by
 unfold GP at h
 split at h
 ·rename_i hT
  cases h
  rcases hk with rfl | rfl | rfl | rfl | rfl | rfl<;>rcases hT with rfl | rfl | rfl | rfl | rfl<;>with_unfolding_all rfl
 ·cases h
section
variable{X:Cx}{Xw:Nat→Hp→Prop}{a b e e2:Expr}{es:List Expr}{δa δb:DE}{δs:DA}{pos p:Pos}
def JZ(K:W.Frag):List V→Hp→VK→Prop:=fun xs H Q=>∃x T t b,xs=[x, .ty T]∧TyOf K H x t∧PySem.W.kitOne K t (.type T)=some b∧Q (.bl b) H
theorem Aw:CallR X (.builtin "isinstance") (JZ X.K):=by
 intro pins s σ H xs us Q I r h
 obtain⟨x,T,t,b,rfl,ty,e,q⟩:=h
 obtain⟨u,w',rfl,r1,r2⟩:=vals2 r
 cases (show w'=_ from r2)
 exact zd I r1 ty e fun tk=>⟨.bl b,H,I.tok tk,rfl,q⟩
theorem CW{K:W.Frag}{F H:Hp}{d:D}{v:V}{k:String}(s:Same F H)(h:Den K F d v)(hk:FC d=some k):TyOf K H v (.type k)∧(k="NoneType"∨k="bool"∨k="int"∨k="str"∨k="tuple"∨k="list"):=by
 cases d with
 |non=>cases hk;cases (show _=_ from h);exact⟨.non, .inl rfl⟩
 |bl x=>cases hk;cases (show _=_ from h);exact⟨.bl x, .inr (.inl rfl)⟩
 |int x=>cases hk;cases (show _=_ from h);exact⟨.int x, .inr (.inr (.inl rfl))⟩
 |str x=>cases hk;cases (show _=_ from h.1);exact⟨.str x, .inr (.inr (.inr (.inl rfl)))⟩
 |tup x=>cases hk;obtain⟨a,vs,rfl,h2,_⟩:=h;exact⟨.tup (s _ _ h2), .inr (.inr (.inr (.inr (.inl rfl))))⟩
 |lst x=>cases hk;obtain⟨a,vs,rfl,h2,_⟩:=h;exact⟨.lst (s _ _ h2), .inr (.inr (.inr (.inr (.inr rfl))))⟩
 |_=>cases hk
theorem zc{K:W.Frag}:tM K (JZ K) gK:=fun Xw F H vs ds Q s h w=>by
 unfold gK at w
 split at w
 ·rename_i d T
  obtain⟨v,v',rfl,h1,h2⟩:=h.two
  cases (show _=_ from h2)
  split at w
  ·rename_i k hk
   split at w
   ·rename_i b hb
    obtain⟨ty,vL⟩:=CW s h1 hk
    exact⟨v,T, .type k,b,rfl,ty,GZ vL hb,WP.now w s rfl⟩
   ·exact w.elim
  ·exact w.elim
 ·exact w.elim
theorem kN(hg:Gl X "isinstance")(hm:X.mg "isinstance"=none)(hb:bootBuiltins "isinstance"=some (.builtin "isinstance"))(ha:mC X Xw [e,e2] δs)(he:starEach [e,e2] X.env=(false,eval e X.env)::starEach [e2] X.env:=by rfl)
 (nk:(backTo pos (starEach [e2] X.env)).any (·.1)=false:=by rfl):PD X Xw (.Call (.Name "isinstance" p) [e,e2] [] pos) (dA gK δs):=
 dF Aw zc hg hm hb ha (by decide) (by decide) he nk
theorem qM{x:Str}{T:String}(hg:Gl X x)(hm:X.mg x=none)(hv:bootBuiltins x=some (.type T))(hn:x≠"__name__":=by decide)(hd:(x==("__debug__":Str))=false:=by decide):PD X Xw (.Name x pos) (dC (.raw (.ty T))):=
 fQ (v:= .ty T) (Er hg hm hv (show RelV (.ty T) (.type T) from rfl) hn hd) fun _=>rfl
def bools:List D→Option (List Bool)
 |[]=>some []
 | .bl b::r=>(bools r).map (b:: ·)
 |_=>none
def allM:List D→M D
 |[.lst ds]=>match bools ds with
  |some bs=>M.ret (.bl (bs.all id))
  |none=>M.stuck
 |_=>M.stuck
theorem pW{K:W.Frag}{F:Hp}:∀{ds:List D}{vs:List V}{bs:List Bool},bools ds=some bs→DenL K F ds vs→vs=bs.map V.bl
 |[],_,_,e,h=>by cases e;exact h
 | .bl b::r,_,_,e,⟨v,r',h1,h2,h3⟩=>by
   unfold bools at e
   cases q:bools r with
   |none=>rw[q] at e;cases e
   |some bs=>rw[q] at e;cases e;subst h1;rw[pW q h3,show v= .bl b from h2];rfl
 | .non::_,_,_,e,_=>by cases e
 | .int _::_,_,_,e,_=>by cases e
 | .str _::_,_,_,e,_=>by cases e
 | .raw _::_,_,_,e,_=>by cases e
 | .exc _::_,_,_,e,_=>by cases e
 | .scr _::_,_,_,e,_=>by cases e
 | .tup _::_,_,_,e,_=>by cases e
 | .lst _::_,_,_,e,_=>by cases e
theorem yz:∀{bs:List Bool}{aG:List Value},Vals (bs.map V.bl) aG→aG=bs.map Value.bool
 |[],_,r=>by cases r;rfl
 |b::bs,_,r=>by
  cases r with
  |cons r1 r2=>cases (show _=_ from r1);rw[yz r2];rfl
def Mp:List V→Hp→VK→Prop:=fun xs H Q=>∃(a:Addr) (bs:List Bool),xs=[.ref a]∧H a=some (.lst (bs.map V.bl))∧Q (.bl (bs.all id)) H
theorem all_range{bs:List Bool}:(List.range bs.length).all (fun i=>bs.getD i false)=bs.all id:=by
 induction bs with
 |nil=>rfl
 |cons b bs ih=>
  rw[List.length_cons,List.range_succ_eq_map,List.all_cons,List.all_map,List.all_cons]
  congr 1
theorem yL(hc:X.calm=true):CallR X (.builtin "all") Mp:=by
 intro pins s σ H xs us Q I r h
 obtain⟨a,bs,rfl,hH,q⟩:=h
 obtain⟨u,rfl,r1⟩:=vals1 r
 cases (show u=_ from r1)
 obtain⟨aG,r2,pl,hz⟩:=I.list (SqL.of (K:=X.K) hH)
 obtain rfl:=yz r2
 have gN:a≠s.heap.objs.size:=Nat.ne_of_lt (I.hok.lt hH)
 refine call_all_walk (wpAny_pyIter_list pl.isList ?_)
 refine⟨s.heap.objs.size,_,_,_,_,_,fun i=>bs.getD i false,rfl,Walks.list (A:=X.A.in1) (show X.A.in1.handled=none from I.ok.hd hc) s.heap.objs.size a gN (bs.map Value.bool).toArray,⟨⟨_,Heap.get?_push_size _ rfl,rfl,rfl⟩,Heap.IsList.at pl.isList fun o e=>Heap.get?_push_of_some _ e⟩,?_,fun h' tk k=>?_⟩
 ·intro i v s' Q' E' hv hq
  have hv:(bs.map Value.bool).toArray[i]? =some v:=hv
  rw[List.getElem?_toArray,List.getElem?_map] at hv
  cases q':bs[i]? with
  |none=>rw[q'] at hv;cases hv
  |some b=>
   rw[q'] at hv
   cases hv
   have:bs.getD i false=b:=by rw[List.getD_eq_getElem?_getD,q'];rfl
   have hq:Q' (bs.getD i false) s':=hq
   rw[this] at hq
   exact wpAny_truthy_bool hq
 ·have e:(List.range (bs.map Value.bool).toArray.size).all (fun i=>bs.getD i false)=bs.all id:=by
   rw[List.size_toArray,List.length_map];exact all_range
  rw[e]
  refine⟨.bl (bs.all id),H,I.kept (h':=h') (t':=tk) fun b o e'=>k b o (fun z=>?_) (Heap.get?_push_of_some _ e'),rfl,q⟩
  have z:b=s.heap.objs.size:=by simpa using z
  exact absurd (Heap.lt_size e') (by rw[z];exact Nat.lt_irrefl _)
theorem wN(hc:X.calm=true)(hg:Gl X "all")(hm:X.mg "all"=none)(hb:bootBuiltins "all"=some (.builtin "all"))(ha:mC X Xw [e] δs)(he:starEach [e] X.env=[(false,eval e X.env)]:=by rfl):PD X Xw (.Call (.Name "all" p) [e] [] pos) (dA allM δs):=
 dF (yL hc) (fun Xw F H vs ds Q s h w=>by
  unfold allM at w
  split at w
  ·rename_i ds
   obtain⟨v,rfl,h1⟩:=h.one
   obtain⟨a,ws,rfl,h2,h3,_⟩:=h1
   split at w
   ·rename_i bs hb
    exact⟨a,bs,rfl,by rw[←pW hb h3];exact s _ _ h2,WP.now w s rfl⟩
   ·exact w.elim
  ·exact w.elim) hg hm hb ha (by decide) (by decide) he rfl
end
section
variable{X:Cx}{Xw:Nat→Hp→Prop}{a b e e2:Expr}{es:List Expr}{δ δa δb:DE}{δs:DA}{pos p apos bp:Pos}
theorem E0{i:Nat}:∀F₀ H₀ D σ H,tS X.K Xw F₀ H₀ (pK i δ) D σ H→CQ (Mw X.K "list" yr (oU i) (CP (tD X.K Xw δ) HP)) D σ H:=fun F₀ H₀ D σ H ⟨F,ρ,s,w⟩=>by
 unfold pK at w
 cases ho:zD ρ i with
 |none=>rw[ho] at w;exact w.elim
 |some ds=>
  rw[ho] at w
  have hi:=qG ho
  obtain⟨v,hv,a,o,rfl,hH,hF,vs,rfl,hd,hl⟩:=s.st.den i _ hi
  have w:WPS X.K Xw F₀ H₀ (δ ρ>>=fun d=>if ds.length<lim then M.ret (.nx (ρ.set i (some (.ow (.lst (ds++[d])))))) else M.stuck) D:=w
  refine⟨.ref a,hv, .inl ⟨rfl,vs,SqL.of hH⟩,F,ρ,s.st,?_⟩
  rcases(δ ρ).cs with q | ⟨n,q⟩ | ⟨d,q⟩
  ·rw[q] at w;exact w.elim
  ·rw[q] at w⊢;exact fun F' H' e'=>w F' H' (s.ext.trans e')
  ·rw[q] at w⊢
   intro u H1 F1 e1 hq
   have w:WPS X.K Xw F₀ H₀ (if ds.length<lim then M.ret (.nx (ρ.set i (some (.ow (.lst (ds++[d])))))) else M.stuck) D:=w
   split at w
   ·rename_i d5
    have hlen:=hd.len
    refine⟨a,vs,u,rfl,rfl,e1.hh _ _ hH,by have:=dB;omega,?_⟩
    exact w σ F1 _ ((s.ext' e1).chg (c₀:= .lst (ds++[d])) hi hv ⟨_,rfl,DenL.append (DenL.mono e1.ff hd) (.cons hq .nil),by rw[List.length_append];exact d5⟩)
   ·exact w.elim
theorem E2{i:Nat}:∀F₀ H₀ D σ H,tS X.K Xw F₀ H₀ (Cv i δ) D σ H→CQ (Mw X.K "list" yt (oU i) (CP (tD X.K Xw δ) HP)) D σ H:=fun F₀ H₀ D σ H ⟨F,ρ,s,w⟩=>by
 unfold Cv at w
 cases ho:zD ρ i with
 |none=>rw[ho] at w;exact w.elim
 |some ds=>
  rw[ho] at w
  have hi:=qG ho
  obtain⟨v,hv,a,o,rfl,hH,hF,vs,rfl,hd,hl⟩:=s.st.den i _ hi
  have w:WPS X.K Xw F₀ H₀ (δ ρ>>=fun d=>lstM d>>=fun es=>if ds.length+es.length≤lim then M.ret (.nx (ρ.set i (some (.ow (.lst (ds++es)))))) else M.stuck) D:=w
  refine⟨.ref a,hv, .inl ⟨rfl,vs,SqL.of hH⟩,F,ρ,s.st,?_⟩
  rcases(δ ρ).cs with q | ⟨n,q⟩ | ⟨d,q⟩
  ·rw[q] at w;exact w.elim
  ·rw[q] at w⊢;exact fun F' H' e'=>w F' H' (s.ext.trans e')
  ·rw[q] at w⊢
   intro u H1 F1 e1 hq
   cases d with
   |lst es=>
    obtain⟨b,ws,rfl,k2,k3,k4⟩:=hq
    have w:WPS X.K Xw F₀ H₀ (if ds.length+es.length≤lim then M.ret (.nx (ρ.set i (some (.ow (.lst (ds++es)))))) else M.stuck) D:=w
    split at w
    ·rename_i d5
     have hlen:=hd.len
     have Nn:=k3.len
     refine⟨a,b,vs,ws,rfl,rfl,e1.hh _ _ hH,e1.fh _ _ k2,by have:=dB;omega,?_⟩
     exact w σ F1 _ ((s.ext' e1).chg (c₀:= .lst (ds++es)) hi hv ⟨_,rfl,DenL.append (DenL.mono e1.ff hd) k3,by rw[List.length_append];exact d5⟩)
    ·exact w.elim
   |_=>exact w.elim
theorem sI{i:Nat}{x:Str}(hv:PE X (.Name x p) (oU i))(he:PD X Xw e δ)(hs:swapsWith (.Call (.Attribute (.Name x p) "append" apos) [e] [] bp) none pos.line X.env=pure false:=by rfl)
 (jw:attributeBase (.Name x p) "append" X.env (eval (.Name x p) X.env)=eval (.Name x p) X.env:=by rfl)
 (rR:((backTo bp (starEach [e] X.env)).all (fun x=>!x.1)&&(backToKw bp (keywordEach [] X.env)).all (fun x=>x.1.isSome)&&decide ([e].length+([]:List Keyword).length+(if ([]:List Keyword).isEmpty then 0 else 1)<30))=true:=by rfl)
 (jx:(apos.endLine==bp.line)=true:=by rfl)(za:starEach [e] X.env=[(false,eval e X.env)]:=by rfl):iL X Xw (.Expr (.Call (.Attribute (.Name x p) "append" apos) [e] [] bp) pos) (pK i δ):=fun F₀ H₀=>
 PS.weak (mJ (B1 PySem.F.plainAttrs_list PySem.F.slot_list_append PySem.F.type_list_append qx hv (sx he sy za) jw rR jx za rfl) hs) fun D σ H w=>E0 F₀ H₀ D σ H w
theorem ED{i:Nat}{x:Str}(hv:PE X (.Name x p) (oU i))(he:PD X Xw e δ)(hs:swapsWith (.Call (.Attribute (.Name x p) "extend" apos) [e] [] bp) none pos.line X.env=pure false:=by rfl)
 (jw:attributeBase (.Name x p) "extend" X.env (eval (.Name x p) X.env)=eval (.Name x p) X.env:=by rfl)
 (rR:((backTo bp (starEach [e] X.env)).all (fun x=>!x.1)&&(backToKw bp (keywordEach [] X.env)).all (fun x=>x.1.isSome)&&decide ([e].length+([]:List Keyword).length+(if ([]:List Keyword).isEmpty then 0 else 1)<30))=true:=by rfl)
 (jx:(apos.endLine==bp.line)=true:=by rfl)(za:starEach [e] X.env=[(false,eval e X.env)]:=by rfl):iL X Xw (.Expr (.Call (.Attribute (.Name x p) "extend" apos) [e] [] bp) pos) (Cv i δ):=fun F₀ H₀=>
 PS.weak (mJ (B1 PySem.F.plainAttrs_list PySem.F.slot_list_extend PySem.F.type_list_extend zu hv (sx he sy za) jw rR jx za rfl) hs) fun D σ H w=>E2 F₀ H₀ D σ H w
theorem BI:OpR X (binaryOp .Add) (fun x y H Q=>∃a b ys,x= .ref a∧y= .ref b∧SqT X.K H a []∧SqT X.K H b ys∧Q (.ref b) H):=by
 intro pins s σ H x y v u Q I rx ry h
 obtain⟨a,b,ys,rfl,rfl,ha,hb,q⟩:=h
 cases rx
 cases ry
 obtain⟨aG,r1,p1,_⟩:=I.tuple ha
 obtain⟨fL,r2,p2,_⟩:=I.tuple hb
 cases r1
 obtain⟨⟨cls,dd,data,sl⟩,ho,hc,n,hd⟩:=id p1
 obtain⟨⟨Le,Dq,data2,KY⟩,Gy,Gj,n2,hd2⟩:=id p2
 simp only at hc hd Gj hd2
 subst hc hd Gj hd2
 exact concat_meets ⟨_,ho,rfl⟩ ⟨_,Gy,rfl⟩ noFill_tuple_add seq_tuple_add PySem.F.slot_tuple_add PySem.F.entry_tuple_add (PySem.F.args_tuple_add_2 _ _)
  (tuple_addW0 a b _ _ n n2 dd Dq sl KY (by simp)) ⟨ho,Gy,⟨.ref b,H,I,rfl,q⟩⟩
def gE:D→D→M D
 | .tup x, .tup y=>if x.length+y.length≤lim then M.ret (.tup (x++y)) else M.stuck
 |_,_=>M.stuck
theorem jV(ha:PD X Xw a δa)(hb:PD X Xw b δb):PD X Xw (.BinOp a .Add b pos) (d2 gE δa δb):=qL (BI.or Eb) (fun Xw F H x y dx dy Q s hx hy w=>by
 unfold gE at w
 split at w
 ·rename_i i j
  obtain⟨a,vs,h1,h2,h3,h4⟩:=hx
  obtain⟨a',vs',k1,k2,k3,k4⟩:=hy
  split at w
  ·rename_i hl
   have e1:=h3.len
   have e2:=k3.len
   have:=dB
   by_cases hv:vs=[]
   ·subst hv
    have:i=[]:=by cases i with | nil=>rfl | cons _ _=>simp at e1
    subst this
    exact .inl ⟨a,a',vs',h1,k1,SqT.of (s _ _ h2),SqT.of (s _ _ k2),WP.now w s ⟨a',vs',k1▸rfl,k2,k3,k4⟩⟩
   ·refine .inr ⟨a,a',vs,vs',h1,k1,SqT.of (s _ _ h2),SqT.of (s _ _ k2),hv,by omega,fun z=>?_,fun z p hp=>?_⟩
    ·subst z
     have:j=[]:=by cases j with | nil=>rfl | cons _ _=>simp at e2
     subst this
     rw[List.append_nil] at w
     exact WP.now w s ⟨a,vs,rfl,h2,h3,h4⟩
    ·exact WP.fin w (Ext.lay s hp) ⟨p,_,rfl,aF,DenL.mono (Ext.lay s hp).ff (h3.append k3),by rw[List.length_append];exact hl⟩
  ·exact w.elim
 ·exact w.elim) ha hb
end
section
variable{X:Cx}{Xw:Nat→Hp→Prop}{a b e e2 o:Expr}{es:List Expr}{δ δa δb δo:DE}{δs:DA}{pos p apos bp:Pos}
def dM(kd:D→Bool)(g:D→List D→M D)(o:DE)(s:DA):DE:=fun ρ=>o ρ>>=fun d=>if kd d then s ρ>>=fun ds=>g d ds else M.stuck
theorem JM{T:String}{name:Str}{id:String}{r:V→List V→Hp→VK→Prop}{kd:D→Bool}{g:D→List D→M D}(pa:PlainAttrs T)(slot:Slot T name id)(LZ:typeOf (.builtin id)=pure (.type "method_descriptor"))(hm:K8 X id r)
 (hk:∀(F H:Hp) (x:V) (d:D),kd d=true→Same F H→Den X.K F d x→K3 X.K T x H)
 (hd:∀(Xw:Nat→Hp→Prop) (F H:Hp) (x:V) (vs:List V) (d:D) (ds:List D) (Q:VK),Same F H→Den X.K F d x→DenL X.K F ds vs→WP X.K Xw F H (g d ds) Q→r x vs H Q)
 (ho:PD X Xw o δo)(ha:mC X Xw (e::es) δs)
 (jw:attributeBase o name X.env (eval o X.env)=eval o X.env:=by rfl)
 (rR:((backTo bp (starEach (e::es) X.env)).all (fun x=>!x.1)&&(backToKw bp (keywordEach [] X.env)).all (fun x=>x.1.isSome)
  &&decide ((e::es).length+([]:List Keyword).length+(if ([]:List Keyword).isEmpty then 0 else 1)<30))=true:=by rfl)
 (jx:(apos.endLine==bp.line)=true:=by rfl) (hs:starEach (e::es) X.env=(false,eval e X.env)::starEach es X.env:=by rfl) (wb:(backTo bp (starEach es X.env)).any (·.1)=false:=by rfl):
 PD X Xw (.Call (.Attribute o name apos) (e::es) [] bp) (dM kd g δo δs):=PE.weak (B1 pa slot LZ hm ho ha jw rR jx hs wb) fun σ H Q ⟨F,ρ,s,w⟩=>by
 refine⟨F,ρ,s,WP.mono (WP.bind w) fun v H1 ⟨F1,d,e1,q1,w1⟩=>?_⟩
 split at w1
 ·rename_i OL
  refine⟨hk F1 H1 v d OL e1.fh q1,F1,ρ,s.ext e1,WPL.mono (WP.bindL w1) fun vs H2 ⟨F2,ds,e2,q2,w2⟩=>?_⟩
  exact hd Xw F2 H2 v vs d ds Q e2.fh (Den.mono e2.ff q1) q2 w2
 ·exact w1.elim
def Jv:D→Bool
 | .str _=>true
 |_=>false
theorem GO{K:W.Frag}(F H:Hp)(x:V)(d:D)(h:Jv d=true)(s:Same F H)(q:Den K F d x):K3 K "str" x H:=by
 cases d with
 |str z=>cases (show _=_ from q.1);exact rfl
 |_=>cases h
def tG:List D→Option (List Str)
 |[]=>some []
 | .str x::r=>(tG r).map (x:: ·)
 |_=>none
theorem oW{K:W.Frag}{F:Hp}:∀{ds:List D}{vs:List V}{xs:List Str},tG ds=some xs→DenL K F ds vs→vs=xs.map V.str
 |[],_,_,e,h=>by cases e;exact h
 | .str b::r,_,_,e,⟨v,r',h1,h2,h3⟩=>by
   unfold tG at e
   cases q:tG r with
   |none=>rw[q] at e;cases e
   |some bs=>rw[q] at e;cases e;subst h1;rw[oW q h3,show v= .str b from h2.1];rfl
 | .non::_,_,_,e,_=>by cases e
 | .int _::_,_,_,e,_=>by cases e
 | .bl _::_,_,_,e,_=>by cases e
 | .raw _::_,_,_,e,_=>by cases e
 | .exc _::_,_,_,e,_=>by cases e
 | .scr _::_,_,_,e,_=>by cases e
 | .tup _::_,_,_,e,_=>by cases e
 | .lst _::_,_,_,e,_=>by cases e
theorem oZ:∀{xs:List Str}{aG:List Value},Vals (xs.map V.str) aG→StrsAre aG xs
 |[],_,r=>by cases r;exact .nil
 |b::bs,_,r=>by
  cases r with
  |cons r1 r2=>obtain⟨t,rfl⟩:=r1;exact .cons b t (oZ r2)
def eh:List Str→Str
 |[]=>⟨#[]⟩
 |x::r=>x++eh r
def joinM:D→List D→M D
 | .str sep,[.lst ds]=>match tG ds with
   |some xs=>if sep.length=0∧(xs.map (·.length)).sum≤lim then M.ret (.str (eh xs)) else M.stuck
   |none=>M.stuck
 | .str sep,[.tup ds]=>match tG ds with
   |some xs=>if sep.length=0∧(xs.map (·.length)).sum≤lim then M.ret (.str (eh xs)) else M.stuck
   |none=>M.stuck
 |_,_=>M.stuck
theorem mT:∀xs:List Str,(eh xs).length=(xs.map (·.length)).sum
 |[]=>rfl
 |x::r=>by
  show (x++eh r).length=_
  rw[ik,mT r,List.map_cons,List.sum_cons]
theorem EY{x:Str}(h:x.length=0):x=⟨#[]⟩:=by
 obtain⟨⟨l⟩⟩:=x
 have:l.length=0:=h
 cases l with
 |nil=>rfl
 |cons _ _=>simp at this
theorem l_(x:Str):x++(⟨#[]⟩:Str)=x:=by
 obtain⟨c⟩:=x
 show (⟨c++ #[]⟩:Str)=⟨c⟩
 simp
theorem lH(sep:Str)(h:sep.length=0):∀xs:List Str,Txt.join sep xs=eh xs:=by
 have e:=EY h
 subst e
 intro xs
 show Builtin.Str.glued _ xs=_
 rw[StrLaws.glued_eq_join]
 induction xs with
 |nil=>rfl
 |cons x r ih=>
  cases r with
  |nil=>show x=x++(⟨#[]⟩:Str);rw[l_]
  |cons y r=>show x++(⟨#[]⟩:Str)++Str.join _ (y::r)=x++eh (y::r);rw[l_,ih]
def rJoin(K:W.Frag):V→List V→Hp→VK→Prop:=fun x vs H Q=>∃(sep:Str) (a:Addr) (xs:List Str),x= .str sep∧vs=[.ref a]∧(H a=some (.lst (xs.map V.str))∨H a=some (.tup (xs.map V.str)))∧sep.length=0∧(xs.map (·.length)).sum≤lim∧Q (.str (eh xs)) H
theorem D6:K8 X "str.join" (rJoin X.K):=by
 intro pins s σ H x vs v us Q I rx rv h
 obtain⟨sep,a,xs,rfl,rfl,hH,hs,hl,q⟩:=h
 obtain⟨t,rfl⟩:=rx
 obtain⟨u,rfl,r1⟩:=rv.one
 cases (show u=_ from r1)
 have hok:(xs.map (·.length)).sum+xs.length*sep.length≤16777216:=by
  rw[hs,Nat.mul_zero]
  unfold lim at hl
  omega
 rcases hH with hH | hH
 ·obtain⟨aG,r2,pl,hz⟩:=I.list (SqL.of (K:=X.K) hH)
  refine join_list pl.isList (by simpa using oZ r2) hok fun t' k=>⟨.str (eh xs),H,I.tok k,⟨t',by rw[lH sep hs]⟩,q⟩
 ·obtain⟨aG,r2,pl,hz⟩:=I.tuple (SqT.of (K:=X.K) hH)
  refine join_tuple pl (by simpa using oZ r2) hok fun t' k=>⟨.str (eh xs),H,I.tok k,⟨t',by rw[lH sep hs]⟩,q⟩
theorem El(ho:PD X Xw o δo)(ha:mC X Xw [e] δs)(jw:attributeBase o "join" X.env (eval o X.env)=eval o X.env:=by rfl)
 (rR:((backTo bp (starEach [e] X.env)).all (fun x=>!x.1)&&(backToKw bp (keywordEach [] X.env)).all (fun x=>x.1.isSome)&&decide ([e].length+([]:List Keyword).length+(if ([]:List Keyword).isEmpty then 0 else 1)<30))=true:=by rfl)
 (jx:(apos.endLine==bp.line)=true:=by rfl)(za:starEach [e] X.env=[(false,eval e X.env)]:=by rfl):PD X Xw (.Call (.Attribute o "join" apos) [e] [] bp) (dM Jv joinM δo δs):=
 JM PySem.F.plainAttrs_str PySem.F.slot_str_join PySem.F.type_str_join D6 GO (fun Xw F H x vs d ds Q s hx hv w=>by
  unfold joinM at w
  split at w
  ·rename_i sep ds
   obtain⟨v,rfl,h1⟩:=hv.one
   obtain⟨a,ws,rfl,h2,h3,_⟩:=h1
   split at w
   ·rename_i xs Jo
    split at w
    ·rename_i hc
     exact⟨sep,a,xs,hx.1,rfl, .inl (by rw[←oW Jo h3];exact s _ _ h2),hc.1,hc.2,WP.now w s ⟨rfl,by rw[mT];exact hc.2⟩⟩
    ·exact w.elim
   ·exact w.elim
  ·rename_i sep ds
   obtain⟨v,rfl,h1⟩:=hv.one
   obtain⟨a,ws,rfl,h2,h3,_⟩:=h1
   split at w
   ·rename_i xs Jo
    split at w
    ·rename_i hc
     exact⟨sep,a,xs,hx.1,rfl, .inr (by rw[←oW Jo h3];exact s _ _ h2),hc.1,hc.2,WP.now w s ⟨rfl,by rw[mT];exact hc.2⟩⟩
    ·exact w.elim
   ·exact w.elim
  ·exact w.elim) ho ha jw rR jx za rfl
def CV:List D→M D
 |[.lst ds]=>M.ret (.tup ds)
 |[.tup ds]=>M.ret (.tup ds)
 |_=>M.stuck
theorem BX(hg:Gl X "tuple")(hm:X.mg "tuple"=none)(hb:bootBuiltins "tuple"=some (.type "tuple"))(ha:mC X Xw [e] δs)(he:starEach [e] X.env=[(false,eval e X.env)]:=by rfl):PD X Xw (.Call (.Name "tuple" p) [e] [] pos) (dA CV δs):=
 zG pf (fun Xw F H vs ds Q s h w=>by
  unfold CV at w
  split at w
  ·rename_i ds
   obtain⟨v,rfl,h1⟩:=h.one
   obtain⟨a,ws,rfl,h2,h3,h4⟩:=h1
   exact⟨a,ws,rfl, .inl ⟨SqL.of (s _ _ h2),fun l hl=>WP.fin w (Ext.lay s hl) ⟨l,ws,rfl,aF,DenL.mono (Ext.lay s hl).ff h3,h4⟩⟩⟩
  ·rename_i ds
   obtain⟨v,rfl,h1⟩:=h.one
   obtain⟨a,ws,rfl,h2,h3,h4⟩:=h1
   exact⟨a,ws,rfl, .inr ⟨SqT.of (s _ _ h2),WP.now w s ⟨a,ws,rfl,h2,h3,h4⟩⟩⟩
  ·exact w.elim) hg hm hb ha (by decide) (by decide) he rfl
theorem wO(hc:X.calm=true)(hg:Gl X "max")(hm:X.mg "max"=none)(hb:bootBuiltins "max"=some (.builtin "max"))(ha:mC X Xw [e,e2] δs)(he:starEach [e,e2] X.env=(false,eval e X.env)::starEach [e2] X.env:=by rfl)
 (nk:(backTo pos (starEach [e2] X.env)).any (·.1)=false:=by rfl):PD X Xw (.Call (.Name "max" p) [e,e2] [] pos) (dA wt δs):=
 dF (yM hc) (fun Xw F H vs ds Q s h w=>by
  unfold wt at w
  split at w
  ·obtain⟨v,v',rfl,h1,h2⟩:=h.two
   cases (show _=_ from h1)
   cases (show _=_ from h2)
   exact⟨_,_,rfl,WP.now w s rfl⟩
  ·exact w.elim) hg hm hb ha (by decide) (by decide) he nk
theorem BV(hc:X.calm=true)(hg:Gl X "min")(hm:X.mg "min"=none)(hb:bootBuiltins "min"=some (.builtin "min"))(ha:mC X Xw [e,e2] δs)(he:starEach [e,e2] X.env=(false,eval e X.env)::starEach [e2] X.env:=by rfl)
 (nk:(backTo pos (starEach [e2] X.env)).any (·.1)=false:=by rfl):PD X Xw (.Call (.Name "min" p) [e,e2] [] pos) (dA zt δs):=
 dF (yN hc) (fun Xw F H vs ds Q s h w=>by
  unfold zt at w
  split at w
  ·obtain⟨v,v',rfl,h1,h2⟩:=h.two
   cases (show _=_ from h1)
   cases (show _=_ from h2)
   exact⟨_,_,rfl,WP.now w s rfl⟩
  ·exact w.elim) hg hm hb ha (by decide) (by decide) he nk
def nums:List D→Option (List Int)
 |[]=>some []
 | .int x::r=>(nums r).map (x:: ·)
 |_=>none
theorem fK{K:W.Frag}{F:Hp}:∀{ds:List D}{vs:List V}{xs:List Int},nums ds=some xs→DenL K F ds vs→vs=xs.map V.int
 |[],_,_,e,h=>by cases e;exact h
 | .int b::r,_,_,e,⟨v,r',h1,h2,h3⟩=>by
   unfold nums at e
   cases q:nums r with
   |none=>rw[q] at e;cases e
   |some bs=>rw[q] at e;cases e;subst h1;rw[fK q h3,show v= .int b from h2];rfl
 | .non::_,_,_,e,_=>by cases e
 | .str _::_,_,_,e,_=>by cases e
 | .bl _::_,_,_,e,_=>by cases e
 | .raw _::_,_,_,e,_=>by cases e
 | .exc _::_,_,_,e,_=>by cases e
 | .scr _::_,_,_,e,_=>by cases e
 | .tup _::_,_,_,e,_=>by cases e
 | .lst _::_,_,_,e,_=>by cases e
def Dy(neg:Bool):D→D→M D
 | .int i, .tup ds=>match nums ds with | some ns=>M.ret (.bl (if neg then !ns.contains i else ns.contains i)) | none=>M.stuck
 |_,_=>M.stuck
theorem Bc(i:Int)(ns:List Int):KO (.int i) (ns.map V.int)=ns.contains i:=by
 unfold KO
 rw[List.any_map]
 induction ns with
 |nil=>rfl
 |cons n ns ih=>
  rw[List.any_cons,List.contains_cons,ih]
  congr 1
  show C9 (.int n) (.int i)=(i==n)
  unfold C9
  exact Bool.beq_comm
theorem GJ{neg:Bool}{K:W.Frag}:vO K (NM K neg) (Dy neg):=fun Xw F H x y dx dy Q s hx hy w=>by
 unfold Dy at w
 split at w
 ·rename_i i ds
  obtain⟨a,vs,h1,h2,h3,h4⟩:=hy
  split at w
  ·rename_i ns hn
   have hv:=fK hn h3
   subst hv
   cases (show _=_ from hx)
   refine⟨a,ns.map V.int,h1, .inr (SqT.of (s _ _ h2)),rfl,?_,?_⟩
   ·rw[List.all_map]
    exact List.all_eq_true.mpr fun _ _=>rfl
   ·rw[Bc]
    exact WP.now w s rfl
  ·exact w.elim
 ·exact w.elim
theorem zO(ha:PD X Xw a δa)(hb:PD X Xw b δb)(hm:behindInMarks .NotIn b=false:=by rfl):o6 X Xw (.Compare a [.NotIn] [b] pos) (cY (d2 (Dy true) δa δb)):=gp sv GJ ha hb hm
def AW(neg:Bool):D→D→M D
 | .str x, .str y=>M.ret (.bl (if neg then !(!(Builtin.Str.occurrences y x 0 y.length 1).isEmpty) else !(Builtin.Str.occurrences y x 0 y.length 1).isEmpty))
 |_,_=>M.stuck
theorem Ha(ha:PD X Xw a δa)(hb:PD X Xw b δb)(hm:behindInMarks .In b=false:=by rfl):PD X Xw (.Compare a [.In] [b] pos) (d2 (AW false) δa δb):=BR zB (fun Xw F H x y dx dy Q s hx hy w=>by
 unfold AW at w
 split at w
 ·exact⟨_,_,hx.1,hy.1,WP.now w s rfl⟩
 ·exact w.elim) ha hb hm
end
end L3
namespace L3
open PySem PySem.Spec L2 SeqAt HT
open PyProof.Rows hiding St
section
variable{prog:Program}{w:World}{A:Around}{E:Value→Shared→Prop}{s:Shared}
theorem iM{t sl:Addr}{items:Array Value}{vl vu:Value}{lo hi:Option Int}{Q:Value→Shared→Prop}(ht:IsTup s.heap t items)(hs:s.heap.IsSliceOf sl vl vu .none)(pl:IsPart vl lo)(pu:IsPart vu hi)
 (hw:sIx items.size 0 lo=0∧sIx items.size items.size hi=items.size)(h:Q (.ref t) s):wpAny (model prog w) A (getItem (.ref t) (.ref sl)) Q E s:=by
 obtain⟨os,uh,DH,y0⟩:=id hs
 have IM:s.TypeIs (.ref sl) "slice":=⟨os,uh,DH⟩
 unfold getItem
 try with_reducible refine wpAny_holding ?_
 first | refine wpAny_bind (wpAny_pure ?_) | skip
 refine wpAny_bind (wpAny_sequenceKey ht.typeIs (by decide) ?_)
 refine wpAny_bind (wpAny_callSpecial?_slot (name:=Str.ofString "__getitem__") ht.typeIs PyProof.Rows.slot_tuple_getitem
  (wpAny_call_entry PyProof.Rows.slot_tuple_getitem ht.typeIs entry_tuple_getitem ?_ (args_tuple_getitem _ _)))
 show wpAny _ _ (Builtin.Tuple.tupleItemsOf (.ref t)>>=_) _ _ s
 refine wpAny_bind (tupleItemsOf_ ht ?_)
 refine wpAny_bind (wpAny_typeOf IM ?_)
 rw[if_pos (by decide)]
 refine wpAny_bind (sliceApplied_gen hs pl pu ?_)
 have nj:((((sIx items.size 0 lo:Nat):Int)==0&&(1:Int)==1&&(sIx items.size items.size hi - sIx items.size 0 lo)==items.size)=true):=by
  rw[hw.1,hw.2]
  simp
 show wpAny _ _ (if (((sIx items.size 0 lo:Nat):Int)==0&&(1:Int)==1&&(sIx items.size items.size hi - sIx items.size 0 lo)==items.size)=true then _ else _) _ _ s
 rw[if_pos nj]
 refine wpAny_bind ?_
 unfold Builtin.Tuple.tupleIsExact
 refine wpAny_bind (wpAny_typeOf ht.typeIs (wpAny_pure ?_))
 rw[if_pos (by decide)]
 exact wpAny_bind (wpAny_rule (wpAny_pure ⟨_,rfl,wpAny_pure h⟩))
end
section
variable{X:Cx}{Xw:Nat→Hp→Prop}{a b e:Expr}{lo hi:Option Expr}{δ δa δb:DE}{pos p p2:Pos}
theorem EV:SlR X (fun x lo hi H Q=>∃a xs,x= .ref a∧SqT X.K H a xs∧(sIx xs.length 0 lo=0∧sIx xs.length xs.length hi=xs.length)∧Q (.ref a) H):=by
 intro pins s σ H x v vl vu lo hi sl Q I rx hs pl pu h
 obtain⟨a,xs,rfl,hx,hw,q⟩:=h
 cases rx
 obtain⟨aG,r,ht,hz⟩:=I.tuple hx
 have hlen:aG.toArray.size=xs.length:=by rw[List.size_toArray];exact r.length.symm
 exact⟨"tuple",_,PyProof.Rows.slot_tuple_getitem.lookup,ht.typeIs,iM ht hs pl pu (by rw[hlen];exact hw) ⟨.ref a,H,I,rfl,q⟩⟩
theorem HJ:SlR X (fun x lo hi H Q=>∃z:Str,x= .str z∧z.length≤lim∧Q (.str (Txt.slice z lo hi)) H):=by
 intro pins s σ H x v vl vu lo hi sl Q I rx hs pl pu h
 obtain⟨z,rfl,hl,q⟩:=h
 obtain⟨t,rfl⟩:=rx
 have hz:z.length≤sizeLine:=by have:=dB;omega
 cases pl with
 |none=>
  cases pu with
  |none=>exact⟨"str",_,PySem.F.slot_str_getitem.lookup,typeIs_str _ _ _,wpAny_getItem_str_slice (l:=none) (u:=none) (st:=none) hs rfl (post_val_or_str ⟨Nat.le_trans (Txt.slice_le z _ _) hz,fun t' k=>⟨.str _,H,I.tok k,⟨t',rfl⟩,q⟩⟩)⟩
  |int j uj=>exact⟨"str",_,PySem.F.slot_str_getitem.lookup,typeIs_str _ _ _,wpAny_getItem_str_slice (l:=none) (u:=some (j,uj)) (st:=none) hs rfl (post_val_or_str ⟨Nat.le_trans (Txt.slice_le z _ _) hz,fun t' k=>⟨.str _,H,I.tok k,⟨t',rfl⟩,q⟩⟩)⟩
 |int i ui=>
  cases pu with
  |none=>exact⟨"str",_,PySem.F.slot_str_getitem.lookup,typeIs_str _ _ _,wpAny_getItem_str_slice (l:=some (i,ui)) (u:=none) (st:=none) hs rfl (post_val_or_str ⟨Nat.le_trans (Txt.slice_le z _ _) hz,fun t' k=>⟨.str _,H,I.tok k,⟨t',rfl⟩,q⟩⟩)⟩
  |int j uj=>exact⟨"str",_,PySem.F.slot_str_getitem.lookup,typeIs_str _ _ _,wpAny_getItem_str_slice (l:=some (i,ui)) (u:=some (j,uj)) (st:=none) hs rfl (post_val_or_str ⟨Nat.le_trans (Txt.slice_le z _ _) hz,fun t' k=>⟨.str _,H,I.tok k,⟨t',rfl⟩,q⟩⟩)⟩
abbrev DO:=aX→M (Option Int)
def WPO(Xw:Nat→Hp→Prop)(F H:Hp)(m:M (Option Int))(Q:Option Int→Hp→Prop):Prop:=
 match m with
 |none=>False
 |some (.ok b)=>∀H' F',Ext F H F' H'→Q b H'
 |some (.ex n)=>∀F' H',Ext F H F' H'→Xw n H'
def Px(K:W.Frag)(Xw:Nat→Hp→Prop)(δ:DO):TO:=fun σ H Q=>∃F ρ,StE K F H σ ρ∧WPO Xw F H (δ ρ) Q
def Kn(X:Cx)(Xw:Nat→Hp→Prop)(e:Option Expr)(δ:DO):Prop:=PO X e (Px X.K Xw δ)
def oN:DO:=fun _=>M.ret none
def oS(δ:DE):DO:=fun ρ=>δ ρ>>=fun d=>match d with | .int i=>M.ret (some i) | _=>M.stuck
theorem eR:Kn X Xw none oN:=fun pins s σ H Q I ⟨F,ρ,S,w⟩=>Ey pins s σ H Q I (w H F (Ext.refl S.fh))
theorem eS(h:PD X Xw e δ):Kn X Xw (some e) (oS δ):=fun pins s σ H Q I ⟨F,ρ,S,w⟩=>Ez h pins s σ H Q I ⟨F,ρ,S,by
 have w:WPO Xw F H (δ ρ>>=fun d=>match d with | .int i=>M.ret (some i) | _=>M.stuck) Q:=w
 rcases(δ ρ).cs with q | ⟨n,q⟩ | ⟨d,q⟩
 ·rw[q] at w;exact w.elim
 ·rw[q] at w⊢;exact w
 ·rw[q] at w⊢
  intro v H' F' e' hd
  cases d with
  |int i=>exact⟨i,hd,w H' F' e'⟩
  |_=>exact w.elim⟩
theorem WP.bindO{K:W.Frag}{Xw:Nat→Hp→Prop}{F H:Hp}{Q:VK}{m:M (Option Int)}{k:Option Int→M D}(h:WP K Xw F H (m>>=k) Q):WPO Xw F H m fun b H1=>∃F1,Ext F H F1 H1∧WP K Xw F1 H1 (k b) Q:=by
 match m,h with
 |none,h=>exact h
 |some (.ok d),h=>exact fun H2 F2 e2=>⟨F2,e2,WP.ext e2 (show WP K Xw F H (k d) Q from h)⟩
 |some (.ex n),h=>exact h
theorem WPO.mono{Xw:Nat→Hp→Prop}{F H:Hp}{m:M (Option Int)}{Q Q':Option Int→Hp→Prop}(h:WPO Xw F H m Q)(k:∀v H',Q v H'→Q' v H'):WPO Xw F H m Q':=by
 match m,h with
 |none,h=>exact h
 |some (.ok d),h=>exact fun H2 F2 e2=>k _ _ (h H2 F2 e2)
 |some (.ex n),h=>exact h
def cutD(ds:List D)(lo hi:Option Int):List D:=(ds.drop (sIx ds.length 0 lo)).take (sIx ds.length ds.length hi - sIx ds.length 0 lo)
def Pt:D→Option Int→Option Int→M D
 | .tup ds,lo,hi=>M.ret (.tup (cutD ds lo hi))
 | .lst ds,lo,hi=>M.ret (.lst (cutD ds lo hi))
 | .str x,lo,hi=>M.ret (.str (Txt.slice x lo hi))
 |_,_,_=>M.stuck
def yT(a:DE)(lo hi:DO):DE:=fun ρ=>a ρ>>=fun d=>lo ρ>>=fun l=>hi ρ>>=fun h=>Pt d l h
theorem tY(ds:List D)(lo hi:Option Int):(cutD ds lo hi).length≤ds.length:=by
 unfold cutD
 rw[List.length_take,List.length_drop]
 omega
theorem DenL.cut{K:W.Frag}{F:Hp}{ds:List D}{vs:List V}(h:DenL K F ds vs)(lo hi:Option Int):DenL K F (cutD ds lo hi) (tZ vs lo hi):=by
 unfold cutD tZ
 rw[h.len]
 exact(h.drop _).take _
theorem oy{δo:DE}{κl κh:DO}(he:PD X Xw e δo)(hl:Kn X Xw lo κl)(hh:Kn X Xw hi κh):PD X Xw (.Subscript e (.Slice lo hi none p2) pos) (yT δo κl κh):=
 PE.weak (B6 (EV.or (HK.or (EU.or HJ))) he hl hh) fun σ H Q ⟨F,ρ,s,w⟩=>by
  refine⟨F,ρ,s,WP.mono (WP.bind w) fun v H1 ⟨F1,d,e1,q1,w1⟩=>?_⟩
  refine⟨F1,ρ,s.ext e1,WPO.mono (WP.bindO w1) fun l H2 ⟨F2,e2,w2⟩=>?_⟩
  refine⟨F2,ρ,(s.ext e1).ext e2,WPO.mono (WP.bindO w2) fun h H3 ⟨F3,e3,w3⟩=>?_⟩
  have q3:=Den.mono (e2.ff.trans e3.ff) q1
  have fh:=e3.fh
  cases d with
  |tup ds=>
   obtain⟨a,vs,rfl,h2,h3,h4⟩:=q3
   by_cases hw:sIx vs.length 0 l=0∧sIx vs.length vs.length h=vs.length
   ·refine .inl ⟨a,vs,rfl,SqT.of (fh _ _ h2),hw,?_⟩
    have hc:cutD ds l h=ds:=by
     unfold cutD
     rw[h3.len,hw.1,hw.2,Nat.sub_zero,List.drop_zero,←h3.len,List.take_length]
    have w3:WP X.K Xw F3 H3 (M.ret (.tup (cutD ds l h))) Q:=w3
    rw[hc] at w3
    exact WP.now w3 fh ⟨a,vs,rfl,h2,h3,h4⟩
   ·exact .inr (.inl ⟨a,vs,rfl,SqT.of (fh _ _ h2),hw,fun p hp=>WP.fin w3 (Ext.lay fh hp) ⟨p,_,rfl,aF,DenL.mono (Ext.lay fh hp).ff (h3.cut l h),Nat.le_trans (tY _ _ _) h4⟩⟩)
  |lst ds=>
   obtain⟨a,vs,rfl,h2,h3,h4⟩:=q3
   exact .inr (.inr (.inl ⟨a,vs,rfl,SqL.of (fh _ _ h2),fun p hp=>WP.fin w3 (Ext.lay fh hp) ⟨p,_,rfl,aF,DenL.mono (Ext.lay fh hp).ff (h3.cut l h),Nat.le_trans (tY _ _ _) h4⟩⟩))
  |str x=>exact .inr (.inr (.inr ⟨x,q3.1,q3.2,WP.now w3 fh ⟨rfl,Nat.le_trans (Txt.slice_le x _ _) q3.2⟩⟩))
  |_=>exact w3.elim
end
section
variable{prog:Program}{w:World}{A:Around}{E:Value→Shared→Prop}{s:Shared}
end
section
variable{X:Cx}{Xw:Nat→Hp→Prop}{a b e:Expr}{δ δa δb:DE}{pos p p2:Pos}
end
def Kl(x:Str):It:=⟨fun i _=>i<x.cps.size,fun i H v H'=>H'=H∧∃c,x.cps[i]? =some c∧v= .str ⟨#[c]⟩,fun i _=>x.cps.size≤i⟩
theorem zY{P:Program}{w:World}{K:W.Frag}{tg:Expr}(it:Addr)(x:Str)(t:Tok):Turn P w K tg (Kl x) [it] it (fun i h=>i≤x.cps.size∧h.IsStrIter it "str_ascii_iterator" x t i) where
 mem:=by simp
 obj:=fun i h st b hb=>by
  have e:b=it:=by simpa using hb
  subst e
  obtain⟨_,o,e,c,d⟩:=st
  exact⟨o,e,fun v z=>by rw[d] at z;cases z⟩
 keep:=fun i h h' st k=>⟨st.1,let ⟨o,e,r⟩:=st.2;⟨o,k it (by simp) o e,r⟩⟩
 item:=by
  intro X hP hw hK hc i pins s σ H E I hf st hg
  subst hP hw hK
  obtain⟨f0,f1,f2,f3,f4,f5⟩:=hf it (by simp)
  have hi:i<x.cps.size:=hg
  refine(Walks.strAscii (prog:=X.prog) (w:=X.w) (I.ok.hd hc) it x t).item i s _ _ hi st.2 fun v h' tk hv oR kk=>?_
  obtain⟨c,u,Ls,rfl⟩:=hv
  have I1:Inv X pins σ H {s with heap:=h',toks:=tk}:=I.turned (fun b o hb e=>kk b o (by simpa using hb) e) f0 f1 f3 f4 f5
  obtain⟨o,e,cc,dd⟩:=id oR
  exact⟨_,rfl,qb (s:={s with heap:=h',toks:=tk}) e cc dd (by decide) ⟨.str ⟨#[c]⟩,H,I1,⟨u,rfl⟩,⟨rfl,c,Ls,rfl⟩,⟨hi,oR⟩,fun b hb=>(hf b hb).1⟩⟩
 done:=by
  intro X hP hw hK hc i pins s σ H E I hf st hg
  subst hP hw hK
  obtain⟨f0,f1,f2,f3,f4,f5⟩:=hf it (by simp)
  have hi:i=x.cps.size:=Nat.le_antisymm st.1 hg
  subst hi
  exact(Walks.strAscii (prog:=X.prog) (w:=X.w) (I.ok.hd hc) it x t).done s _ _ st.2 fun h' tk kk=>⟨rfl,I.turned (fun b o hb e=>kk b o (by simpa using hb) e) f0 f1 f3 f4 f5⟩
 self:=fun _ _ _ _ _ st h=>wpAny_pyIter_striter_ascii st.2 h
theorem zZ{P:Program}{w:World}{K:W.Frag}{tg:Expr}(it:Addr)(x:Str)(t:Tok):Turn P w K tg (Kl x) [it] it (fun i h=>i≤x.cps.size∧h.IsStrIter it "str_iterator" x t i) where
 mem:=by simp
 obj:=fun i h st b hb=>by
  have e:b=it:=by simpa using hb
  subst e
  obtain⟨_,o,e,c,d⟩:=st
  exact⟨o,e,fun v z=>by rw[d] at z;cases z⟩
 keep:=fun i h h' st k=>⟨st.1,let ⟨o,e,r⟩:=st.2;⟨o,k it (by simp) o e,r⟩⟩
 item:=by
  intro X hP hw hK hc i pins s σ H E I hf st hg
  subst hP hw hK
  obtain⟨f0,f1,f2,f3,f4,f5⟩:=hf it (by simp)
  have hi:i<x.cps.size:=hg
  refine(Walks.strWide (prog:=X.prog) (w:=X.w) (I.ok.hd hc) it x t).item i s _ _ hi st.2 fun v h' tk hv oR kk=>?_
  obtain⟨c,u,Ls,rfl⟩:=hv
  have I1:Inv X pins σ H {s with heap:=h',toks:=tk}:=I.turned (fun b o hb e=>kk b o (by simpa using hb) e) f0 f1 f3 f4 f5
  obtain⟨o,e,cc,dd⟩:=id oR
  exact⟨_,rfl,qb (s:={s with heap:=h',toks:=tk}) e cc dd (by decide) ⟨.str ⟨#[c]⟩,H,I1,⟨u,rfl⟩,⟨rfl,c,Ls,rfl⟩,⟨hi,oR⟩,fun b hb=>(hf b hb).1⟩⟩
 done:=by
  intro X hP hw hK hc i pins s σ H E I hf st hg
  subst hP hw hK
  obtain⟨f0,f1,f2,f3,f4,f5⟩:=hf it (by simp)
  have hi:i=x.cps.size:=Nat.le_antisymm st.1 hg
  subst hi
  exact(Walks.strWide (prog:=X.prog) (w:=X.w) (I.ok.hd hc) it x t).done s _ _ st.2 fun h' tk kk=>⟨rfl,I.turned (fun b o hb e=>kk b o (by simpa using hb) e) f0 f1 f3 f4 f5⟩
 self:=fun _ _ _ _ _ st h=>wpAny_pyIter_striter_wide st.2 h
section
variable{X:Cx}{Xw:Nat→Hp→Prop}{tg a b e l o:Expr}{δ δa δb δo:DE}{δs:DA}{pos p p2 apos bp:Pos}
def L8(tl:TE):TI:=fun σ H R=>tl σ H fun x H1=>∃z,x= .str z∧R (Kl z) H1
theorem Hr{tl:TE}(hl:PE X l tl):PI X tg l (L8 tl):=by
 intro pins s σ H R I h
 refine bS (hl pins s σ H _ I h) fun v s1 ⟨x,H1,I1,r1,q1⟩=>?_
 obtain⟨z,e,q⟩:=q1
 subst e
 obtain⟨t,rfl⟩:=r1
 have fp:∀b∈[s1.heap.objs.size],o_ X pins H1 b:=fun b hb=>by
  have e:b=s1.heap.objs.size:=by simpa using hb
  subst e
  exact I1.fpOk (Nat.le_refl _) (I1.hok.fresh (Nat.le_refl _))
 cases ha:z.cps.all (· <128)
 ·exact wpAny_pyIter_wide ha ⟨s1.heap.objs.size,[s1.heap.objs.size],_,_,H1,rfl,I1.kept (t':=s1.toks) fun b o e=>Heap.get?_push_of_some _ e,zZ _ z t,⟨Nat.zero_le _,_,Heap.get?_push_size _ rfl,rfl,rfl⟩,fp,q⟩
 ·exact wpAny_pyIter_ascii ha ⟨s1.heap.objs.size,[s1.heap.objs.size],_,_,H1,rfl,I1.kept (t':=s1.toks) fun b o e=>Heap.get?_push_of_some _ e,zY _ z t,⟨Nat.zero_le _,_,Heap.get?_push_size _ rfl,rfl,rfl⟩,fp,q⟩
def signs(x:Str):List D:=x.cps.toList.map fun c=>D.str ⟨#[c]⟩
def HH:D→M (List D)
 | .str x=>M.ret (signs x)
 |_=>M.stuck
theorem DU{K:W.Frag}{F:Hp}(x:Str):ItD K F (Kl x) (signs x):=fun F' H' i s1 s2=>by
 refine⟨fun d e=>?_,fun hl=>show x.cps.size≤i by simpa[signs] using hl⟩
 unfold signs at e
 rw[List.getElem?_map] at e
 cases q:x.cps.toList[i]? with
 |none=>rw[q] at e;cases e
 |some c=>
  rw[q] at e
  cases e
  have hi:i<x.cps.size:=by
   have:=(List.getElem?_eq_some_iff.mp q).1
   simpa using this
  refine⟨hi,fun v H'' y=>?_⟩
  obtain⟨e2,c',Fq,rfl⟩:=y
  subst e2
  have:c'=c:=by
   have q':x.cps[i]? =some c:=by simpa using q
   rw[q'] at Fq
   exact(Option.some.inj Fq).symm
  subst this
  exact⟨F',Ext.refl s2,rfl,by show 1≤lim;decide⟩
theorem Ep(h:PD X Xw l δ):xr X Xw tg l (fun ρ=>δ ρ>>=HH):=PI.weak (Hr h) fun σ H R ⟨F,ρ,s,w⟩=>by
 refine⟨F,ρ,s,WP.mono (WPI.bind w) fun v H1 ⟨F1,d,e1,q1,w1⟩=>?_⟩
 cases d with
 |str z=>exact⟨z,q1.1,w1 _ _ _ (Ext.refl e1.fh) (DU z)⟩
 |_=>exact w1.elim
end
end L3
namespace L3
open PySem PySem.Spec L2 SeqAt HT
open PyProof.Rows hiding St
open PySem.W (Frag Looks InstAt findIn mroIn)
open PySem.Builtin PySem.Builtin.ObjectAttr PySem.Builtin.Getset_descriptor
section
variable{prog:Program}{w:World}{A:Around}{E:Value→Shared→Prop}{h:Heap}{g:Array GenState}{d:Drawn}{t:Nat}{os:OsState}{x D:Addr}{ox:Obj}{K:Frag}
structure ExcC (K:Frag) (D:Addr):Prop where
 ga:findIn K (.ref D) "__getattribute__"=some (some (.builtin "BaseException.__getattribute__"))
 gt:findIn K (.ref D) "__getattr__"=some none
 ca:findIn K (.ref D) "__class__"=some (some (.builtin "object.__class__"))
 mo:mroIn K D (.type "object")=some true
 mb:mroIn K D (.type "BaseException")=some true
 cl:(PySem.W.clsIn K D).isSome=true
end
section
variable{X:Cx}{Xw:Nat→Hp→Prop}{e e2:Expr}{δs:DA}{pos p:Pos}
end
end L3
namespace L3
open PySem PySem.Spec L2 SeqAt HT
open PyProof.Rows hiding St
open PySem.W (Frag Looks findIn mroIn)
section
variable{X:Cx}{pins pn:List (Addr×Obj)}{σ:St}{H:Hp}{s:Shared}{E:Value→Shared→Prop}{ea:Addr}
end
section
variable{P:Program}{w:World}{K:W.Frag}{mg:Str→Option Value}{base:Heap}{N:List Str}{qual:Str}{scope:Scope}{f:Addr}{cd:Value}{A:Around}{outer:List Env}{s₀:Shared}{H₀:Hp}{E:XK}{cv:Nat→Value}
end
end L3
namespace L3
open PySem PySem.Spec L2 SeqAt HT
open PyProof.Rows hiding St
structure RoomH (k:Nat) (A:Around):Prop where
 dp:A.depth+3*k+5<recursionLimit
 un:A.units+16*k+200<cLine
theorem RoomH.deeper{k:Nat}{A:Around}(r:RoomH (k+1) A)(env:Env):RoomH k (A.deeper env):=
 ⟨by have:=r.dp;show A.depth+1+3*k+5<_;omega,by have:=r.un;show A.units+3+16*k+200<_;omega⟩
theorem RoomH.units{k:Nat}{A:Around}(r:RoomH k A):A.units+64<cLine:=by have:=r.un;omega
structure FnOkH (P:Program) (w:World) (K:W.Frag) (mg:Str→Option Value) (base:Heap) (k:Nat) (f:Addr) (fd:FuncData) (ps:List Str) (sp:Sp):Prop where
 len:∀vs H Q E,sp vs H Q E→vs.length=ps.length
 run:∀(A:Around) (outer:List Env) (s:Shared) (H:Hp) (args:Args) (us:List Value) (vs:List V) (Q:VK) (E:XK),RoomH k A→Env0 P w K mg base A outer s H→BindsTo s fd args (ps.zip us)→Vals vs us→sp vs H Q E→
  codeAny (model P w) A (.call (.ref f) args) (CR K5 outer P w H s Q E) s
section
variable{P:Program}{w:World}{K:W.Frag}{mg:Str→Option Value}{base:Heap}{cv:Nat→Value}
end
section
variable{X:Cx}{Xw:Nat→Hp→Prop}{cv:Nat→Value}{k m:Nat}{f:Addr}{fd:FuncData}{ps:List Str}{g:List D→M D}{x:Str}{p pos:Pos}{e:Expr}{es:List Expr}{δs:DA}
end
def xF(N:List Str)(osc scope:Scope)(tn:List Str):Bool:=
 decide (scope.kind= .function)&&scope.names.all (fun y=>decide (y.2≠ .cell))&&scope.names.all (fun y=>decide (y.2= .local→scope.names.lookup y.1=some .local))&&
 scope.names.all (fun y=>decide (y.2= .free→(osc.names.lookup y.1=some .cell∨osc.names.lookup y.1=some .free)))&&
 ((dz tn N).zip N).all (fun p=>decide (scope.names.lookup p.1=none∨(p.1=p.2∧scope.names.lookup p.1=some .free)))
theorem cj{X:Cx}{N:List Str}{osc scope:Scope}{tn:List Str}(hN:X.N=N)(ho:X.env.scope=osc)(h:xF N osc scope tn=true):CompSc X scope tn:=by
 unfold xF at h
 simp only[Bool.and_eq_true,List.all_eq_true,decide_eq_true_eq] at h
 obtain⟨⟨⟨⟨h1,h2⟩,h3⟩,h4⟩,h5⟩:=h
 refine⟨h1,h2,h3,fun y hy hf=>?_,?_⟩
 ·have:=h4 y hy hf
  rw[←ho] at this
  exact this
 ·rw[hN]
  exact h5
theorem d7{X:Cx}{x:Str}{px:Pos}{σ:St}(hN:X.N.Nodup)(h0:X.N[0]? =some x)(Gr:X.env.scope.names.lookup x=some .local):Ag X (.Name x px) 0 σ:=fun pins s σ' F H d ts v u I fh hd rv q e=>by
 have e:M.ret [d]=M.ret ts:=e
 have e:=fm e
 subst e
 refine wpAny_assign_Name (vv I hN h0 (.inl Gr) rv (fun s' I'=>⟨[v],?_, .cons q .nil⟩) (.inr Gr))
 have hl:0<σ'.length:=by rw[I.len];exact(List.getElem?_eq_some_iff.mp h0).1
 have:σ'.set 0 (some v)=[v].map some++σ:=by
  cases σ' with
  |nil=>simp at hl
  |cons a r=>
   have hd:r=σ:=by simpa using hd
   subst hd
   rfl
 rw[←this]
 exact I'
theorem bN{P:Program}{w:World}{cv:Nat→Value}{X:Cx}:Passes (lr P w cv) X (EX cv fun _ _=>False):=fun _ _ _ _ _ _ _ ⟨_,_,_,_,_,_,_,_,_,_,_,_,_,_,z⟩=>z.elim
def bw(K:W.Frag)(mg:Str→Option Value)(x:Str)(st:Stmt)(f:Addr):Prop:=mg x=some (.ref f)∧∃fd,Fun K x x st f fd
def ai(P:Program)(w:World)(K:W.Frag)(mg:Str→Option Value)(base:Heap)(cv:Nat→Value)(k:Nat)(x:Str)(m:Nat)(g:List D→M D):Prop:=
 ∃f fd ps,mg x=some (.ref f)∧PySem.W.keepIn K (.ref f)=true∧Binds K fd ps []∧FnOk P w K mg base (lr P w cv) k f fd ps (Ie K cv m g)
section
variable{X:Cx}{Xw:Nat→Hp→Prop}{cv:Nat→Value}{k m:Nat}{g:List D→M D}{x:Str}{p pos:Pos}{e:Expr}{es:List Expr}{δs:DA}
def ah(m:Nat)(g:List D→M D)(δs:DA):DE:=fun ρ=>δs ρ>>=fun ds=>if ds.length=m then g ds else M.stuck
theorem aR(F:ai X.prog X.w X.K X.mg X.base cv k x m g)(hr:Room k X.A)(hg:Gl X x)(hx:Passes (lr X.prog X.w cv) X (EX cv Xw))
 (ha:mC X Xw (e::es) δs)(hl:(e::es).length=m)(rQ:(x==("__debug__":Str))=false:=by decide)(he:starEach (e::es) X.env=(false,eval e X.env)::starEach es X.env:=by rfl)(nk:(backTo pos (starEach es X.env)).any (·.1)=false:=by rfl):
 PD X Xw (.Call (.Name x p) (e::es) [] pos) (ah m g δs):=by
 obtain⟨f,fd,ps,h1,h2,h3,h4⟩:=F
 exact Ek h4 hr hg h1 h2 h3 hx ha hl rQ he nk
end
theorem az{P:Program}{w:World}{K:W.Frag}{mg:Str→Option Value}{base:Heap}{cv:Nat→Value}{k:Nat}{x:Str}{st:Stmt}{f:Addr}{N ps:List Str}{τ:DS}(T:bw K mg x st f)(S:FnScope N ps (af st))
 (Nb:∀(kV doc pm:Value) (an:Option Addr) (bC ct:Value) (us:List Value),us.length=ps.length→bindArgs (PySem.W.fnOf x x (d4 st) (bf st) (af st) .none kV doc pm an bC ct) ⟨us,[]⟩=pure (ps.zip us))
 (ng:∀(bC:Value) (A:Around) (outer:List Env) (s:Shared) (H:Hp) (E:XK),Room k (A.deeper (envOfC x (af st) s.heap.objs.size f bC))→
  PSDs (d_ (lr P w cv) P w K mg base N x (af st) f bC A outer s H E) (fun n H'=>E (cv n) none H') (bf st) τ):ai P w K mg base cv (k+1) x ps.length (bV N.length τ):=by
 obtain⟨h1,fd,Fn⟩:=T
 exact⟨f,fd,ps,h1,Fn.kp,Fn.binds Nb,IG Fn S ng⟩
section
variable{X:Cx}{Xw:Nat→Hp→Prop}{a e:Expr}{δ:DE}{pos:Pos}
def D7:D→M D
 | .int i=>M.ret (.int (-i))
 |_=>M.stuck
theorem BW(ha:PD X Xw a δ):PD X Xw (.UnaryOp .USub a pos) (d1 D7 δ):=PE.weak (JQ HU ha) fun σ H Q ⟨F,ρ,s,w⟩=>by
 refine⟨F,ρ,s,WP.mono (WP.bind w) fun v H1 ⟨F1,d,e1,q,w1⟩=>?_⟩
 cases d with
 |int i=>
  have q:v= .int i:=q
  subst q
  exact⟨i,rfl,WP.now w1 e1.fh rfl⟩
 |_=>exact w1.elim
end
section
variable{X:Cx}{Xw:Nat→Hp→Prop}{pos:Pos}
theorem Em{x z:Str}(hg:Gl X x)(h:∃t,X.mg x=some (.str z t))(hz:z.length≤lim)(rQ:(x==("__debug__":Str))=false:=by decide):PD X Xw (.Name x pos) (dC (.str z)):=by
 obtain⟨t,h⟩:=h
 exact yl (v:= .str z) hg h ⟨t,rfl⟩ (fun _=>⟨rfl,hz⟩) rQ
theorem sD{x:Str}{i:Int}(hg:Gl X x)(h:∃t,X.mg x=some (.int i t))(rQ:(x==("__debug__":Str))=false:=by decide):PD X Xw (.Name x pos) (dC (.int i)):=by
 obtain⟨t,h⟩:=h
 exact yl (v:= .int i) hg h ⟨t,rfl⟩ (fun _=>rfl) rQ
end
def EM(sc osc:Scope):Scope:={sc with names:=sc.names.map fun(n,k)=>if (k== .free&&osc.kind== .function&&osc.names.lookup n==some .cell) then(n, .cell) else(n,k)}
structure Box (p:Prop):Prop where
 out:p
section
variable{X:Cx}{Xw:Nat→Hp→Prop}{a:Expr}{δa:DE}{pos:Pos}
theorem fZ{st:Stmt}{rest:List Stmt}{τ τ':DS}(h1:Box (iL X Xw st τ))(h2:Box (PSDs X Xw rest τ')):Box (PSDs X Xw (st::rest) (aB τ τ')):=⟨ag h1.out h2.out⟩
theorem FW{st:Stmt}{τ:DS}(h1:Box (iL X Xw st τ)):Box (PSDs X Xw [st] τ):=⟨ao h1.out⟩
end
theorem Kj{l:PySem.W.OpenLaw}{n k:Nat}{q:Program}{loose:List Str}{XP:(Str→Option Value)→Heap→Prop}{YP:World→Heap→Prop}{d:DefRec}{K:Params→W.Frag}{x:Str}{g:List D→M D}
 (hn:l.most=some n)(KC:n≤lim)(IX:d.params.defaults=[])(hr:Room k callerA)
 (hY:∀(w:World) (h:Heap),YP w h→(K w.params).In h)(hg:∀ns:List Int,ns.length≤n→g [.scr ns]=M.ret (.bl true))
 (F:∀(w:World) (mg:Str→Option Value) (fa:Addr) (h:Heap),(K w.params).In h→h.Ns mainGlobals mg→mg d.name=some (.ref fa)→
  ∃(cv:Nat→Value) (fd:FuncData),(∀(s:Shared) (u:Value),BindsTo s fd ⟨[u],[]⟩ [(x,u)])∧
   ∀base:Heap,(K w.params).In base→base.Ns mainGlobals mg→FnOk l.prog w (K w.params) mg base (lr l.prog w cv) k fa fd [x] (Ie (K w.params) cv 1 g)):
 PySem.W.WalkO q loose XP YP l.row.toRowW d [] (fun f vs=>PySem.call f vs):=by
 refine Att.attach_call hn IX fun w s₀ s₁ mg mb fa o pm cd doc a vs ns G Y ho hd vK Gu A9 hints hlen OD=>?_
 have KX:=hY w _ Y
 obtain⟨cv,fd,hb,hF⟩:=F w mg fa _ KX G.T.g Gu
 refine uw KX G.T.g G.T.b G.T.builtins G.T.nolimit OD A9 hints (Nat.le_trans hlen (Nat.le_trans KC (Nat.le_of_lt dB))) hr hF hb (fun H hO hS=>?_) fun H e s' z=>?_
 ·refine⟨H,[.scr ns],fun _ _ e=>e,⟨_,_,rfl,⟨a,rfl,hS,Nat.le_trans hlen KC⟩,rfl⟩,rfl,?_⟩
  rw[hg ns hlen]
  exact fun v H' F' e q=>q
 ·obtain⟨_,_,_,_,_,_,_,_,_,_,_,_,_,_,y⟩:=z
theorem qU(n:Nat):(List.range n).map (fun k=>n - 1 - k)=(List.range n).reverse:=by
 apply List.ext_getElem
 ·simp
 ·intro i h1 h2
  simp at h1
  rw[List.getElem_reverse]
  simp
theorem uZ{α:Type}(xs:Array α):(List.range xs.size).reverse.filterMap (fun k=>xs[k]?)=xs.toList.reverse:=by
 rw[List.filterMap_reverse]
 congr 1
 have:∀n,n≤xs.size→(List.range n).filterMap (fun k=>xs[k]?)=xs.toList.take n:=by
  intro n
  induction n with
  |zero=>intro _;rfl
  |succ n ih=>
   intro h
   have e:xs[n]? =some xs[n]:=Array.getElem?_eq_getElem (by omega)
   rw[List.range_succ,List.filterMap_append,ih (by omega),List.take_add_one]
   simp[e]
 rw[this xs.size (Nat.le_refl _),←Array.length_toList,List.take_length]
theorem jo{α β:Type}{f g:α→Option β}:∀{l:List α},(∀x∈l,f x=g x)→l.filterMap f=l.filterMap g
 |[],_=>rfl
 |a::l,h=>by rw[List.filterMap_cons,List.filterMap_cons,h a (List.mem_cons_self ..),jo fun x hx=>h x (List.mem_cons_of_mem _ hx)]
theorem wW(n:Nat):sliceRange ((n:Int) - 1) (-1) (-1)=(List.range n).reverse:=by
 rw[←qU]
 unfold sliceRange
 have e1:¬((-1:Int)>0):=by omega
 simp only[e1,if_false]
 by_cases h:(n:Int) - 1> -1
 ·simp only[h,if_true]
  have e2:((((n:Int) - 1 - -1 - -1 - 1) / (- -1)).toNat)=n:=by
   have:(n:Int) - 1 - -1 - -1 - 1=n:=by omega
   rw[this]
   simp
  rw[e2]
  refine List.map_congr_left fun k hk=>?_
  have:=List.mem_range.mp hk
  omega
 ·simp only[h,if_false]
  have:n=0:=by omega
  subst this
  rfl
def sQ(x:Str):Str:=⟨x.cps.toList.reverse.toArray⟩
theorem oG(x:Str):(sQ x).length=x.length:=by
 show x.cps.toList.reverse.toArray.size=x.cps.size
 simp
section
variable{prog:Program}{w:World}{A:Around}{E:Value→Shared→Prop}{s:Shared}
theorem Br(x:Str)(t u:Tok):sliceMade x t none none (some (-1,u))= .str (sQ x):=by
 unfold sliceMade slicePicked
 have h:¬((((some ((-1:Int),u)).map (·.1)).getD 1==1&&(Builtin.Str.strSliceIndices none none (-1) x.length).length==x.length)=true):=by
  intro q
  rw[Bool.and_eq_true] at q
  exact absurd (show ((-1:Int)==1)=true from q.1) (by decide)
 have e:Builtin.Str.strSliceIndices none none (-1) x.length=(List.range x.length).reverse:=by
  unfold Builtin.Str.strSliceIndices
  exact wW x.length
 show (if ((((some ((-1:Int),u)).map (·.1)).getD 1==1&&(Builtin.Str.strSliceIndices none none (-1) x.length).length==x.length)=true) then Made.val (.str x t) else Made.str ⟨((Builtin.Str.strSliceIndices none none (-1) x.length).filterMap (x.cps[·]?)).toArray⟩)=_
 rw[if_neg h,e]
 show Made.str ⟨((List.range x.cps.size).reverse.filterMap (x.cps[·]?)).toArray⟩=_
 rw[uZ]
 rfl
theorem tN{sl:Addr}{u:Tok}{n:Nat}{Q:Int×Int×Nat→Shared→Prop}(hs:s.heap.IsSliceOf sl .none .none (.int (-1) u))(h:Q ((n:Int) - 1,-1,n) s):
 wpAny (model prog w) A (Builtin.Slice.sliceApplied (.ref sl) (pure (n:Int))) Q E s:=by
 obtain⟨os,uh,DH,y0⟩:=id hs
 unfold Builtin.Slice.sliceApplied Builtin.Slice.sliceFields
 refine wpAny_bind (wpAny_bind (wpAny_field uh y0 (x:= .none) rfl (wpAny_bind (wpAny_field uh y0 (x:= .none) rfl (wpAny_bind (wpAny_field uh y0 (x:= .int (-1) u) rfl (wpAny_pure ?_)))))))
 refine wpAny_bind (slicePart_int ?_)
 show wpAny _ _ (if ((-1:Int)==0)=true then _ else _) _ _ s
 rw[if_neg (by decide)]
 refine wpAny_bind (slicePart_none (wpAny_bind (slicePart_none (wpAny_bind (wpAny_pure ?_)))))
 show wpAny _ _ (match Builtin.Slice.sliceAdjust none none (-1) (n:Int) with | (lo,hi)=>pure (lo,(-1:Int),Builtin.Slice.slicePlaces lo hi (-1))) _ _ s
 have e1:Builtin.Slice.sliceAdjust none none (-1) (n:Int)=((n:Int) - 1,-1):=rfl
 have e2:Builtin.Slice.slicePlaces ((n:Int) - 1) (-1) (-1)=n:=by
  unfold Builtin.Slice.slicePlaces
  have e1:¬((-1:Int)>0):=by omega
  simp only[e1,if_false]
  have e3:(- (-1:Int))=1:=by omega
  rw[e3,Int.ediv_one]
  split<;>omega
 rw[e1]
 show wpAny _ _ (pure ((n:Int) - 1,(-1:Int),Builtin.Slice.slicePlaces ((n:Int) - 1) (-1) (-1))) _ _ s
 rw[e2]
 exact wpAny_pure h
theorem ju{t sl:Addr}{items:Array Value}{u:Tok}{Q:Value→Shared→Prop}(ht:IsTup s.heap t items)(hs:s.heap.IsSliceOf sl .none .none (.int (-1) u))
 (h:Q (.ref s.heap.objs.size) {s with heap:=s.heap.push {cls:= .type "tuple",data:= .seq items.toList.reverse.toArray} })(hsz:items.size≤sizeLine):wpAny (model prog w) A (getItem (.ref t) (.ref sl)) Q E s:=by
 have hr:sizeOk (.seq items.toList.reverse.toArray):=by
  show items.toList.reverse.toArray.size≤sizeLine
  simpa using hsz
 obtain⟨os,uh,DH,y0⟩:=id hs
 have IM:s.TypeIs (.ref sl) "slice":=⟨os,uh,DH⟩
 unfold getItem
 try with_reducible refine wpAny_holding ?_
 first | refine wpAny_bind (wpAny_pure ?_) | skip
 refine wpAny_bind (wpAny_sequenceKey ht.typeIs (by decide) ?_)
 refine wpAny_bind (wpAny_callSpecial?_slot (name:=Str.ofString "__getitem__") ht.typeIs PyProof.Rows.slot_tuple_getitem
  (wpAny_call_entry PyProof.Rows.slot_tuple_getitem ht.typeIs entry_tuple_getitem ?_ (args_tuple_getitem _ _)))
 show wpAny _ _ (Builtin.Tuple.tupleItemsOf (.ref t)>>=_) _ _ s
 refine wpAny_bind (tupleItemsOf_ ht ?_)
 refine wpAny_bind (wpAny_typeOf IM ?_)
 rw[if_pos (by decide)]
 refine wpAny_bind (tN hs ?_)
 have nj:¬((((items.size:Int) - 1)==0&&(-1:Int)==1&&items.size==items.size)=true):=by
  intro q
  rw[Bool.and_eq_true,Bool.and_eq_true] at q
  exact absurd q.1.2 (by decide)
 show wpAny _ _ (if (((items.size:Int) - 1)==0&&(-1:Int)==1&&items.size==items.size)=true then _ else _) _ _ s
 rw[if_neg nj]
 have e:((List.range items.size).filterMap fun(m:Nat)=>items[(((items.size:Int) - 1)+(m:Int)*(-1)).toNat]?).toArray=items.toList.reverse.toArray:=by
  rw[←uZ,←qU,List.filterMap_map]
  congr 1
  refine jo fun k hk=>?_
  have:=List.mem_range.mp hk
  have q:(((items.size:Int) - 1)+(k:Int)*(-1)).toNat=items.size - 1 - k:=by omega
  rw[q]
  rfl
 rw[e]
 first
  |exact wpAny_bind (m:=Builtin.Tuple.tupleExact _) (wpAny_newObj_type (wpAny_pure ⟨_,rfl,wpAny_pure h⟩) hr)
  |exact wpAny_bind (m:=Builtin.Tuple.tupleExact _) (wpAny_newObj_type (wpAny_bind (wpAny_pure (wpAny_pure ⟨_,rfl,wpAny_pure h⟩))) hr)
  |exact wpAny_bind (wpAny_bind (m:=Builtin.Tuple.tupleExact _) (wpAny_newObj_type (wpAny_pure (wpAny_pure ⟨_,rfl,wpAny_pure h⟩)) hr))
  |exact wpAny_bind (wpAny_bind (m:=Builtin.Tuple.tupleExact _) (wpAny_newObj_type (wpAny_pure ⟨_,rfl,wpAny_pure h⟩) hr))
end
section
variable{X:Cx}{Xw:Nat→Hp→Prop}{e HY:Expr}{te ts:TE}{δ δs:DE}{pos p2:Pos}
def MS(X:Cx)(r:V→Hp→VK→Prop):Prop:=
 ∀(pins:List (Addr×Obj)) (s:Shared) (σ:St) (H:Hp) (x:V) (v:Value) (u:Tok) (sl:Addr) (Q:VK),Inv X pins σ H s→RelV x v→s.heap.IsSliceOf sl .none .none (.int (-1) u)→r x H Q→
  ∃T id,typeLookup (.type T) "__getitem__"=pure (some (.builtin id))∧s.TypeIs v T∧wpAny (model X.prog X.w) X.A (getItem v (.ref sl)) (EP X pins σ Q) X.xe s
theorem Hl{r:V→Hp→VK→Prop}(hr:MS X r)(he:PE X e te)(hs:PE X HY ts):PE X (.Subscript e (.Slice none none (some HY) p2) pos) (fun σ H Q=>te σ H fun x H1=>ts σ H1 fun y H2=>y= .int (-1)∧r x H2 Q):=by
 intro pins s σ H Q I h
 refine Subscript_ (bS (he pins s σ H _ I h) fun v s1 ⟨x,H1,I1,r1,q1⟩=>?_)
 refine wpAny_Slice ?_
 rw[evalPart_none]
 refine wpAny_pure (wpAny_pure ?_)
 rw[evalPart_some]
 refine bS (hs pins s1 σ H1 _ I1 q1) fun vs s3 ⟨y,H3,I3,ry,q3⟩=>?_
 obtain⟨rfl,q3⟩:=q3
 obtain⟨u,rfl⟩:=ry
 have I4:Inv X pins σ H3 {s3 with heap:=s3.heap.push {cls:= .type "slice",data:= .fields #[.none, .none, .int (-1) u]} }:=I3.kept (t':=s3.toks) fun b ob q=>Heap.get?_push_of_some _ q
 obtain⟨T,id,hT,ht,hg⟩:=hr pins {s3 with heap:=s3.heap.push {cls:= .type "slice",data:= .fields #[.none, .none, .int (-1) u]} } σ H3 x v u s3.heap.objs.size Q I4 r1 (Heap.IsSliceOf.new ..) q3
 show wpAny (model X.prog X.w) X.A (subscriptTail e (.Slice none none (some HY) p2) v (.ref s3.heap.objs.size)) (EP X pins σ Q) X.xe {s3 with heap:=s3.heap.push {cls:= .type "slice",data:= .fields #[.none, .none, .int (-1) u]} }
 exact tail_any (ops:=[v, .ref s3.heap.objs.size]) ht hT hg (by with_unfolding_all rfl)
def Mq(K:W.Frag):V→Hp→VK→Prop:=fun x H Q=>(∃z:Str,x= .str z∧z.length≤lim∧Q (.str (sQ z)) H)∨∃a xs,x= .ref a∧SqT K H a xs∧∀p,H p=none→Q (.ref p) (upd H p (.tup xs.reverse))
theorem HD:MS X (Mq X.K):=by
 intro pins s σ H x v u sl Q I rx hs h
 rcases h with⟨z,rfl,hl,q⟩ | ⟨a,xs,rfl,hx,q⟩
 ·obtain⟨t,rfl⟩:=rx
  refine⟨"str",_,PySem.F.slot_str_getitem.lookup,typeIs_str _ _ _,wpAny_getItem_str_slice (l:=none) (u:=none) (st:=some (-1,u)) hs rfl ?_⟩
  rw[Br]
  exact⟨by rw[oG];have:=dB;omega,⟨.str _,H,I.tok _,⟨_,rfl⟩,q⟩⟩
 ·cases rx
  obtain⟨aG,r,ht,hz⟩:=I.tuple hx
  have hlen:=r.length
  refine⟨"tuple",_,PyProof.Rows.slot_tuple_getitem.lookup,ht.typeIs,ju ht hs ?_ (by rw[List.size_toArray];omega)⟩
  refine⟨.ref s.heap.objs.size,_,I.laid (t':=s.toks) (o:= .tup xs.reverse) (fun b ob q=>Heap.get?_push_of_some _ q) (Nat.le_refl _) ?_,rfl,q _ (I.hok.fresh (Nat.le_refl _))⟩
  exact⟨by rw[List.length_reverse];exact hz,_,r.reverse,⟨_,Heap.get?_push_size _ rfl,rfl,by simp⟩⟩
def J6:D→M D
 | .str x=>M.ret (.str (sQ x))
 | .tup ds=>M.ret (.tup ds.reverse)
 |_=>M.stuck
def FY(a st:DE):DE:=fun ρ=>a ρ>>=fun d=>st ρ>>=fun k=>match k with
 | .int i=>if i= -1 then J6 d else M.stuck
 |_=>M.stuck
theorem He(he:PD X Xw e δ)(hs:PD X Xw HY δs):PD X Xw (.Subscript e (.Slice none none (some HY) p2) pos) (FY δ δs):=
 PE.weak (Hl HD he hs) fun σ H Q ⟨F,ρ,s,w⟩=>by
  refine⟨F,ρ,s,WP.mono (WP.bind w) fun v H1 ⟨F1,d,e1,q1,w1⟩=>?_⟩
  refine⟨F1,ρ,s.ext e1,WP.mono (WP.bind w1) fun y H2 ⟨F2,k,e2,q2,w2⟩=>?_⟩
  have q3:=Den.mono e2.ff q1
  cases k with
  |int i=>
   have w2:WP X.K Xw F2 H2 (if i= -1 then J6 d else M.stuck) Q:=w2
   split at w2
   ·rename_i hi
    subst hi
    refine⟨q2,?_⟩
    cases d with
    |str x=>exact .inl ⟨x,q3.1,q3.2,WP.now w2 e2.fh ⟨rfl,by rw[oG];exact q3.2⟩⟩
    |tup ds=>
     obtain⟨a,vs,rfl,h2,h3,h4⟩:=q3
     exact .inr ⟨a,vs,rfl,SqT.of (e2.fh _ _ h2),fun p hp=>WP.fin w2 (Ext.lay e2.fh hp) ⟨p,_,rfl,aF,DenL.mono (Ext.lay e2.fh hp).ff h3.reverse,by rw[List.length_reverse];exact h4⟩⟩
    |_=>exact w2.elim
   ·exact w2.elim
  |_=>exact w2.elim
variable{o:Expr}{δo:DE}{δl:DA}{apos bp:Pos}
end
namespace RV
end RV
section
variable{prog:Program}{w:World}{A:Around}{E:Value→Shared→Prop}{s:Shared}
end
section
variable{X:Cx}{Xw:Nat→Hp→Prop}{tg e:Expr}{es:List Expr}{δ δi:DE}{δs:DA}{pos p:Pos}
end
end L3
namespace L3
open PySem PySem.Spec L2 SeqAt HT
open PyProof.Rows hiding St
def Bo:D→Option Key
 | .int i=>some (.inl i)
 | .str x=>some (.inr x)
 |_=>none
def D0:List D→Option (List Key)
 |[]=>some []
 |d::ds=>match Bo d,D0 ds with
  |some k,some ks=>some (k::ks)
  |_,_=>none
def jz:D→Option (List Key)
 | .tup ds=>D0 ds
 |_=>none
theorem nB{K:W.Frag}{F:Hp}{d:D}{v:V}{k:Key}(e:Bo d=some k)(h:Den K F d v):v=kV k:=by
 cases d<;>first | cases e | skip
 ·exact h
 ·exact h.1
theorem jy{K:W.Frag}{F:Hp}:∀{ds:List D}{vs:List V}{ks:List Key},D0 ds=some ks→DenL K F ds vs→vs=ks.map kV
 |[],_,_,e,h=>by cases e;exact h
 |d::ds,_,_,e,⟨v,r,h1,h2,h3⟩=>by
  unfold D0 at e
  split at e
  ·rename_i k ks e1 e2
   cases e
   subst h1
   rw[List.map_cons,nB e1 h2,jy e2 h3]
  ·cases e
section
variable{κ:Type}[DecidableEq κ]
def eV:List κ→List D→κ→Option D
 |k'::ks,d::ds,k=>if k'=k then some d else eV ks ds k
 |_,_,_=>none
def kY:List κ→List D→κ→D→List D
 |k'::ks,d'::ds,k,d=>(if k'=k then d else d')::kY ks ds k d
 |_,_,_,_=>[]
theorem kc{K:W.Frag}{F:Hp}:∀{ks:List κ}{ds:List D}{vs:List V}(k:κ),DenL K F ds vs→ks.length=ds.length→
 (match eV ks ds k with | some d=>∃v,ke (ks.zip vs) k=some v∧Den K F d v | none=>ke (ks.zip vs) k=none)
 |[],[],_,_,_,_=>rfl
 |k'::ks,d::ds,_,k,⟨v,r,h1,h2,h3⟩,hl=>by
  subst h1
  unfold eV
  rw[List.zip_cons_cons]
  by_cases e:k'=k
  ·rw[if_pos e,kg (p:=(k',v)) e]
   exact⟨v,rfl,h2⟩
  ·rw[if_neg e,kf (p:=(k',v)) e]
   exact kc k h3 (by simpa using hl)
 |[],_::_,_,_,_,hl=>by simp at hl
 |_::_,[],_,_,_,hl=>by simp at hl
theorem ip{K:W.Frag}{F:Hp}{ks:List κ}{ds:List D}{vs:List V}(k:κ)(h:DenL K F ds vs)(hl:ks.length=ds.length):(ke (ks.zip vs) k).isSome=(eV ks ds k).isSome:=by
 have:=kc k h hl
 split at this
 ·rename_i d e
  obtain⟨v,e1,_⟩:=this
  rw[e1,e];rfl
 ·rename_i e
  rw[this,e]
  rfl
theorem va{K:W.Frag}{F:Hp}{d:D}{v:V}(hd:Den K F d v):∀{ks:List κ}{ds:List D}{vs:List V}(k:κ),DenL K F ds vs→ks.length=ds.length→
 ∃ws,(ks.zip vs).map (fun kv=>if kv.1=k then(kv.1,v) else kv)=ks.zip ws∧DenL K F (kY ks ds k d) ws
 |[],[],_,_,h,_=>⟨[],rfl,rfl⟩
 |k'::ks,d'::ds,_,k,⟨v',r,h1,h2,h3⟩,hl=>by
  subst h1
  obtain⟨ws,e1,e2⟩:=va hd k h3 (by simpa using hl)
  by_cases e:k'=k
  ·refine⟨v::ws,?_,?_⟩
   ·rw[List.zip_cons_cons,List.map_cons,e1,if_pos e];rfl
   ·unfold kY;rw[if_pos e];exact .cons hd e2
  ·refine⟨v'::ws,?_,?_⟩
   ·rw[List.zip_cons_cons,List.map_cons,e1,if_neg e];rfl
   ·unfold kY;rw[if_neg e];exact .cons h2 e2
 |[],_::_,_,_,_,hl=>by simp at hl
 |_::_,[],_,_,_,hl=>by simp at hl
theorem g8:∀(ks:List κ) (ds:List D) (k:κ) (d:D),ks.length=ds.length→(kY ks ds k d).length=ds.length
 |[],[],_,_,_=>rfl
 |_::ks,_::ds,k,d,h=>by unfold kY;rw[List.length_cons,List.length_cons,g8 ks ds k d (by simpa using h)]
 |[],_::_,_,_,h=>by simp at h
 |_::_,[],_,_,h=>by simp at h
def cW(ks:List κ)(ds:List D)(k:κ):List κ:=if (eV ks ds k).isSome then ks else ks++[k]
def b5(ks:List κ)(ds:List D)(k:κ)(d:D):List D:=if (eV ks ds k).isSome then kY ks ds k d else ds++[d]
theorem sJ{K:W.Frag}{F:Hp}{d:D}{v:V}(hd:Den K F d v){ks:List κ}{ds:List D}{vs:List V}(k:κ)(h:DenL K F ds vs)(hl:ks.length=ds.length):
 ∃ws,putK (ks.zip vs) k v=(cW ks ds k).zip ws∧DenL K F (b5 ks ds k d) ws∧(cW ks ds k).length=(b5 ks ds k d).length:=by
 have hs:=ip (K:=K) (F:=F) k h hl
 unfold putK cW b5
 have ha:((ks.zip vs).any fun kv=>decide (kv.1=k))=(ke (ks.zip vs) k).isSome:=oX ..
 rw[ha,hs]
 cases e:(eV ks ds k).isSome with
 |true=>
  rw[if_pos rfl,if_pos rfl,if_pos rfl]
  obtain⟨ws,e1,e2⟩:=va hd k h hl
  exact⟨ws,e1,e2,by rw[g8 ks ds k d hl];exact hl⟩
 |false=>
  rw[if_neg Bool.false_ne_true,if_neg Bool.false_ne_true,if_neg Bool.false_ne_true]
  refine⟨vs++[v],?_,h.append (.cons hd .nil),by simp[hl]⟩
  rw[List.zip_append (by rw[hl];exact h.len)]
  rfl
end
theorem yA{κ:Type}{K:W.Frag}{F:Hp}{ks:List κ}{ds:List D}{vs:List V}(h:DenL K F ds vs)(hl:ks.length=ds.length):(ks.zip vs).length=ds.length:=by
 rw[List.length_zip,hl,←h.len];omega
def oO(ρ:aX)(i:Nat):Option D:=match ρ[i]? with
 |some (some (.fz d))=>some d
 |some (some (.ow c))=>some c.d
 |_=>none
theorem CH{K:W.Frag}{F H:Hp}{σ:St}{ρ:aX}{i:Nat}{ks:List (List Key)}{ds:List D}(s:StE K F H σ ρ)(e:oO ρ i=some (.dct ks ds)):
 ∃a vs,σ[i]? =some (some (.ref a))∧Rd H a (.dT (ks.zip vs))∧DenL K F ds vs∧ks.length=ds.length∧ds.length≤lim:=by
 unfold oO at e
 split at e
 ·rename_i d e1
  cases e
  obtain⟨v,h1,a,ob,vs,rfl,h2,h3,h4,h5⟩:=s.den i _ e1
  exact⟨a,vs,h1, .inr ⟨ob,s.fh _ _ h2⟩,h3,h4,h5⟩
 ·rename_i c e1
  cases c<;>cases e
  obtain⟨v,h1,a,o,rfl,h2,_,vs,rfl,h3,h4,h5⟩:=s.den i _ e1
  exact⟨a,vs,h1, .inl h2,h3,h4,h5⟩
 ·cases e
theorem CG{K:W.Frag}{F H:Hp}{σ:St}{ρ:aX}{i:Nat}{ks:List Key}{ds:List D}(s:StE K F H σ ρ)(e:oO ρ i=some (.dci ks ds)):
 ∃a vs,σ[i]? =some (some (.ref a))∧Rd H a (.dK (ks.zip vs))∧DenL K F ds vs∧ks.length=ds.length∧ds.length≤lim:=by
 unfold oO at e
 split at e
 ·rename_i d e1
  cases e
  obtain⟨v,h1,a,ob,vs,rfl,h2,h3,h4,h5⟩:=s.den i _ e1
  exact⟨a,vs,h1, .inr ⟨ob,s.fh _ _ h2⟩,h3,h4,h5⟩
 ·rename_i c e1
  cases c<;>cases e
  obtain⟨v,h1,a,o,rfl,h2,_,vs,rfl,h3,h4,h5⟩:=s.den i _ e1
  exact⟨a,vs,h1, .inl h2,h3,h4,h5⟩
 ·cases e
def C8:D→D→Option (Option D)
 | .dct ks ds,k=>(jz k).map (eV ks ds)
 | .dci ks ds,k=>(Bo k).map (eV ks ds)
 |_,_=>none
theorem xA{K:W.Frag}{F H:Hp}{σ:St}{ρ:aX}{i:Nat}{d k:D}{y:V}{o:Option D}(s:StE K F H σ ρ)(hi:oO ρ i=some d)(hk:Den K F k y)(e:C8 d k=some o):
 ∃a ov,σ[i]? =some (some (.ref a))∧o9 H a y ov∧ov.isSome=o.isSome∧∀d',o=some d'→∃v,ov=some v∧Den K F d' v:=by
 unfold C8 at e
 split at e
 ·rename_i ks ds
  cases q:jz k with
  |none=>rw[q] at e;cases e
  |some kk=>
   rw[q] at e
   cases e
   obtain⟨a,vs,h1,h2,h3,h4,h5⟩:=CH s hi
   unfold jz at q
   split at q
   ·rename_i es
    obtain⟨b,ws,rfl,k2,k3,_⟩:=hk
    have e1:=jy q k3
    subst e1
    refine⟨a,_,h1, .inr ⟨_,kk,b,h2,rfl,s.fh _ _ k2,rfl⟩,ip kk h3 h4,fun d' qc=>?_⟩
    have:=kc (K:=K) (F:=F) kk h3 h4
    rw[qc] at this
    exact this
   ·cases q
 ·rename_i ks ds
  cases q:Bo k with
  |none=>rw[q] at e;cases e
  |some kk=>
   rw[q] at e
   cases e
   obtain⟨a,vs,h1,h2,h3,h4,h5⟩:=CG s hi
   have e1:=nB q hk
   subst e1
   refine⟨a,_,h1, .inl ⟨_,kk,h2,rfl,rfl⟩,ip kk h3 h4,fun d' qc=>?_⟩
   have:=kc (K:=K) (F:=F) kk h3 h4
   rw[qc] at this
   exact this
 ·cases e
section
variable{X:Cx}{Xw:Nat→Hp→Prop}{a b:Expr}{δa δb:DE}{pos:Pos}
end
section
variable{X:Cx}{Xw:Nat→Hp→Prop}{a e:Expr}{δ δk δv:DE}{pos p pos' pJ apos bp:Pos}{x:Str}{i:Nat}
def Iz(neg:Bool)(i:Nat)(δ:DE):DE:=fun ρ=>δ ρ>>=fun k=>match oO ρ i with
 |some d=>match C8 d k with
  |some o=>M.ret (.bl (if neg then !o.isSome else o.isSome))
  |none=>M.stuck
 |none=>M.stuck
theorem GL{neg:Bool}{σ:St}{H:Hp}{Q:VK}(h:tD X.K Xw (Iz neg i δ) σ H Q):(fun σ H Q=>tD X.K Xw δ σ H fun y H1=>oU i σ H1 fun x H2=>∃a o,x= .ref a∧o9 H2 a y o∧Q (.bl (if neg then !o.isSome else o.isSome)) H2) σ H Q:=by
 obtain⟨F,ρ,s,w⟩:=h
 refine⟨F,ρ,s,WP.mono (WP.bind w) fun y H1 ⟨F1,k,e1,q1,w1⟩=>?_⟩
 have s1:=s.ext e1
 cases hi:oO ρ i with
 |none=>rw[hi] at w1;exact w1.elim
 |some d=>
  rw[hi] at w1
  have w1:WP X.K Xw F1 H1 (match C8 d k with | some o=>M.ret (.bl (if neg then !o.isSome else o.isSome)) | none=>M.stuck) Q:=w1
  cases he:C8 d k with
  |none=>rw[he] at w1;exact w1.elim
  |some o=>
   rw[he] at w1
   obtain⟨a,ov,h1,h2,h3,_⟩:=xA s1 hi q1 he
   refine⟨.ref a,h1,a,ov,rfl,h2,?_⟩
   rw[h3]
   exact WP.now w1 e1.fh rfl
theorem Mo(hu:X.A.units+64<cLine)(ha:PD X Xw a δ)(hv:PE X (.Name x p) (oU i))(hm:behindInMarks .In (.Name x p)=false:=by rfl):PD X Xw (.Compare a [.In] [.Name x p] pos) (Iz false i δ):=
 PE.weak (Hg (G_ (by omega) ha hv) hm) fun σ H Q h=>GL (neg:=false) h
def vc(i:Nat):DS:=fun ρ=>M.ret (.nx (ρ.set i (some (.ow (.dct [] [])))))
theorem jX(hN:X.N.Nodup)(hi:X.N[i]? =some x)(hx:Loc X.env.scope x)(hf:X.fn x=true∨X.env.scope.names.lookup x=some .local:=by first | exact .inl rfl | exact .inr rfl):
 iL X Xw (.Assign [.Name x pos'] (.Dict [] [] pJ) pos) (vc i):=fun F₀ H₀=>PS.weak (sH B4 (bx hN hi hx hf) rfl) fun D σ H ⟨F,ρ,s,w⟩=>fun q hq=>
 w _ F _ (s.setNew (c₀:= .dct [] []) hq ⟨[],rfl,rfl,rfl,Nat.zero_le _⟩)
def kS:C→D→D→Option C
 | .dct ks ds,k,d=>match jz k with
   |some kk=>if ds.length<lim then some (.dct (cW ks ds kk) (b5 ks ds kk d)) else none
   |none=>none
 | .dci ks ds,k,d=>match Bo k with
   |some kk=>if ds.length<lim then some (.dci (cW ks ds kk) (b5 ks ds kk d)) else none
   |none=>none
 |_,_,_=>none
def wL(ρ:aX)(i:Nat):Option C:=match ρ[i]? with
 |some (some (.ow c))=>some c
 |_=>none
theorem qF{ρ:aX}{i:Nat}{c:C}(h:wL ρ i=some c):ρ[i]? =some (some (.ow c)):=by
 unfold wL at h
 split at h
 ·rename_i c' e
  cases h
  exact e
 ·cases h
def gH(i:Nat)(δk δv:DE):DS:=fun ρ=>match wL ρ i with
 |some c=>δv ρ>>=fun v=>δk ρ>>=fun k=>match kS c k v with
  |some c'=>M.ret (.nx (ρ.set i (some (.ow c'))))
  |none=>M.stuck
 |none=>M.stuck
theorem qP{κ:Type}[DecidableEq κ]{ks:List κ}{ds:List D}{k:κ}{d:D}(hl:ks.length=ds.length)(h:ds.length<lim):(b5 ks ds k d).length≤lim:=by
 unfold b5
 split
 ·rw[g8 ks ds k d hl];omega
 ·rw[List.length_append];exact h
theorem Ci{K:W.Frag}{F H:Hp}{c c':C}{k d:D}{y v:V}{o:HO}{b:Addr}(hs:Same F H)(hb:H b=some o)(hc:DenC K F c o)(hk:Den K F k y)(hd:Den K F d v)(e:kS c k d=some c'):∃o',DPut H b y v (upd H b o')∧DenC K F c' o':=by
 have Jb:=dB
 unfold kS at e
 split at e
 ·rename_i ks ds k d
  obtain⟨vs,rfl,h3,h4,h5⟩:=hc
  split at e
  ·rename_i kk q
   split at e
   ·rename_i d5
    cases e
    unfold jz at q
    split at q
    ·rename_i es
     obtain⟨b2,ws,rfl,k2,k3,_⟩:=hk
     have e1:=jy q k3
     subst e1
     obtain⟨us,e2,e3,e4⟩:=sJ hd kk h3 h4
     refine⟨_,DPut.t hb (hs _ _ k2) (by rw[yA h3 h4];omega),us,?_,e3,e4,qP h4 d5⟩
     rw[e2]
    ·cases q
   ·cases e
  ·cases e
 ·rename_i ks ds k d
  obtain⟨vs,rfl,h3,h4,h5⟩:=hc
  split at e
  ·rename_i kk q
   split at e
   ·rename_i d5
    cases e
    have e1:=nB q hk
    subst e1
    obtain⟨us,e2,e3,e4⟩:=sJ hd kk h3 h4
    refine⟨_,DPut.k hb (by rw[yA h3 h4];omega),us,?_,e3,e4,qP h4 d5⟩
    rw[e2]
   ·cases e
  ·cases e
 ·cases e
theorem jY(hu:X.A.units+64<cLine)(hv:PE X (.Name x p) (oU i))(hk:PD X Xw a δk)(he:PD X Xw e δv)(hs:swapsWith e (some (.Subscript (.Name x p) a pos')) pos.line X.env=pure false:=by rfl):
 iL X Xw (.Assign [.Subscript (.Name x p) a pos'] e pos) (gH i δk δv):=fun F₀ H₀=>PS.weak (EC (by omega) hv hk he hs) fun D σ H ⟨F,ρ,s,w⟩=>by
 unfold gH at w
 cases ho:wL ρ i with
 |none=>rw[ho] at w;exact w.elim
 |some c=>
  rw[ho] at w
  have hi:=qF ho
  have w:WPS X.K Xw F₀ H₀ (δv ρ>>=fun v=>δk ρ>>=fun k=>match kS c k v with | some c'=>M.ret (.nx (ρ.set i (some (.ow c')))) | none=>M.stuck) D:=w
  refine⟨F,ρ,s.st,?_⟩
  rcases(δv ρ).cs with q | ⟨n,q⟩ | ⟨dv,q⟩
  ·rw[q] at w;exact w.elim
  ·rw[q] at w⊢;exact fun F' H' e'=>w F' H' (s.ext.trans e')
  ·rw[q] at w⊢
   intro v H1 F1 e1 hq
   have s1:=s.ext' e1
   obtain⟨u,h1,b,o,rfl,h2,h3,h4⟩:=s1.st.den i _ hi
   have w:WPS X.K Xw F₀ H₀ (δk ρ>>=fun k=>match kS c k dv with | some c'=>M.ret (.nx (ρ.set i (some (.ow c')))) | none=>M.stuck) D:=w
   refine⟨.ref b,h1,F1,ρ,s1.st,?_⟩
   rcases(δk ρ).cs with q2 | ⟨n,q2⟩ | ⟨dk,q2⟩
   ·rw[q2] at w;exact w.elim
   ·rw[q2] at w⊢;exact fun F' H' e'=>w F' H' (s1.ext.trans e')
   ·rw[q2] at w⊢
    intro y H2 F2 e2 hy
    have w:WPS X.K Xw F₀ H₀ (match kS c dk dv with | some c'=>M.ret (.nx (ρ.set i (some (.ow c')))) | none=>M.stuck) D:=w
    cases hp:kS c dk dv with
    |none=>rw[hp] at w;exact w.elim
    |some c'=>
     rw[hp] at w
     have s2:=s1.ext' e2
     obtain⟨u2,k1,b2,o2,Gh,k2,k3,k4⟩:=s2.st.den i _ hi
     rw[h1] at k1
     cases k1
     cases Gh
     obtain⟨o',g,hc⟩:=Ci s2.st.fh k2 k4 hy (Den.mono e2.ff hq) hp
     exact⟨b,_,rfl,g,w σ F2 _ (s2.chg hi h1 hc)⟩
end
def er(c:DT)(body:DS):Nat→DS
 |0,_=>M.stuck
 |n+1,ρ=>c ρ>>=fun b=>if b then body ρ>>=fun o=>match o with | .nx ρ'=>er c body n ρ' | .rt d=>M.ret (.rt d) else M.ret (.nx ρ)
def CA(c:DT)(body:DS):DS:=fun ρ=>er c body lim ρ
section
variable{X:Cx}{Xw:Nat→Hp→Prop}{τ:DS}{tc:DT}{pos:Pos}
theorem zN{c:Expr}{body:List Stmt}(hp:PassesOwn (model X.prog X.w) X.A X.env X.xe)(hc:o6 X Xw c tc)(hb:PSDs X Xw body τ):iL X Xw (.While c body [] pos) (CA tc τ):=fun F₀ H₀=>PS.weak (Cb hp hc hb.ex) fun D σ H ⟨F,ρ,s,w⟩=>by
 refine⟨fun m σ H=>∃F ρ,StOk X.K F₀ H₀ F H σ ρ∧WPS X.K Xw F₀ H₀ (er tc τ m ρ) D,⟨lim,F,ρ,s,w⟩,?_⟩
 rintro m σ H ⟨F,ρ,s,w⟩
 cases m with
 |zero=>exact w.elim
 |succ m=>
  refine⟨F,ρ,s.st,?_⟩
  unfold er at w
  match tc ρ,w with
  |none,w=>exact w
  |some (.ex n),w=>exact fun F' H' e'=>w F' H' (s.ext.trans e')
  |some (.ok false),w=>exact fun H' F' e'=>w σ F' H' (s.ext' e')
  |some (.ok true),w=>
   intro H' F' e'
   have w:WPS X.K Xw F₀ H₀ (τ ρ>>=fun o=>match o with | .nx ρ'=>er tc τ m ρ' | .rt d=>M.ret (.rt d)) D:=w
   refine⟨fun σ' H'=>∃F' ρ',StOk X.K F₀ H₀ F' H' σ' ρ'∧WPS X.K Xw F₀ H₀ (er tc τ m ρ') D,fun σ' H' h=>⟨m,Nat.lt_succ_self m,h⟩,F₀,H₀,F',ρ,s.ext' e',?_⟩
   match τ ρ,w with
   |none,w=>exact w
   |some (.ok (.nx ρ')),w=>exact fun σ' F' H' s'=>⟨F',ρ',s',w⟩
   |some (.ok (.rt d)),w=>exact w
   |some (.ex n),w=>exact w
end
section
variable{X:Cx}{Xw:Nat→Hp→Prop}{a b:Expr}{δa δb:DE}{pos:Pos}
end
end L3
namespace L3
open PySem PySem.W PyProof.Rows
def c9{α:Type}(b:Nat→Nat→Bool):KasT α→α
 | .ret a=>a
 | .ask i j k=>c9 b (k (b i j))
theorem eI{α β:Type}(b:Nat→Nat→Bool)(f:α→KasT β):∀t:KasT α,c9 b (t.bind f)=c9 b (f (c9 b t))
 | .ret _=>rfl
 | .ask i j k=>eI b f (k (b i j))
structure Lt (n:Nat) (b:Nat→Nat→Bool):Prop where
 tr:∀i j k,b i j=true→b j k=true→b i k=true
 PU:∀i j,b i j=true→b j i=false
 tot:∀i j,i<n→j<n→i≠j→b i j=true∨b j i=true
abbrev at'(p:Array Nat)(i:Nat):Nat:=p.getD i 0
def Ri(b:Nat→Nat→Bool)(p:Array Nat)(k:Nat):Prop:=∀i j,i<j→j<k→b (at' p i) (at' p j)=true
def Fa(b:Nat→Nat→Bool)(p:Array Nat)(k:Nat):Prop:=∀i j,i<j→j<k→b (at' p j) (at' p i)=true
structure PN (n:Nat) (p:Array Nat):Prop where
 sz:p.size=n
 lt:∀i,i<n→at' p i<n
 inj:∀i j,i<n→j<n→at' p i=at' p j→i=j
section
variable{n:Nat}{b:Nat→Nat→Bool}(L:Lt n b)
include L
theorem Ri.more{p:Array Nat}{k:Nat}(h:Ri b p k)(h1:1≤k)(e:b (at' p (k - 1)) (at' p k)=true):Ri b p (k+1):=fun i j xO hj=>by
 by_cases hk:j<k
 ·exact h i j xO hk
 ·have:j=k:=by omega
  subst this
  by_cases hi:i=j - 1
  ·subst hi;exact e
  ·exact L.tr _ _ _ (h i (j - 1) (by omega) (by omega)) e
theorem Fa.more{p:Array Nat}{k:Nat}(h:Fa b p k)(h1:1≤k)(e:b (at' p k) (at' p (k - 1))=true):Fa b p (k+1):=fun i j xO hj=>by
 by_cases hk:j<k
 ·exact h i j xO hk
 ·have:j=k:=by omega
  subst this
  by_cases hi:i=j - 1
  ·subst hi;exact e
  ·exact L.tr _ _ _ e (h i (j - 1) (by omega) (by omega))
theorem rp{p:Array Nat}(P:PN n p):∀(f k:Nat),1≤k→k+f≤n→Ri b p k→k≤c9 b (kas_asc p f k)∧c9 b (kas_asc p f k)≤k+f∧Ri b p (c9 b (kas_asc p f k))∧(c9 b (kas_asc p f k)<k+f→b (at' p (c9 b (kas_asc p f k))) (at' p (c9 b (kas_asc p f k) - 1))=true)
 |0,k,h1,hn,h=>⟨Nat.le_refl _,Nat.le_refl _,h,fun z=>absurd z (Nat.lt_irrefl _)⟩
 |f+1,k,h1,hn,h=>by
  have e:c9 b (kas_asc p (f+1) k)=c9 b (if b (at' p k) (at' p (k - 1))=true then KasT.ret k else kas_asc p f (k+1)):=rfl
  rw[e]
  by_cases hb:b (at' p k) (at' p (k - 1))=true
  ·rw[if_pos hb]
   exact⟨Nat.le_refl _,by show k≤_;omega,h,fun _=>hb⟩
  ·rw[if_neg hb]
   have hr:b (at' p (k - 1)) (at' p k)=true:=by
    rcases L.tot (at' p (k - 1)) (at' p k) (P.lt _ (by omega)) (P.lt _ (by omega)) (fun z=>by have:=P.inj _ _ (by omega) (by omega) z;omega) with q | q
    ·exact q
    ·exact absurd q hb
   obtain⟨a1,a2,a3,a4⟩:=rp P f (k+1) (by omega) (by omega) (Ri.more L h h1 hr)
   exact⟨by omega,by omega,a3,fun z=>a4 (by omega)⟩
theorem t9{p:Array Nat}(P:PN n p):∀(f k:Nat),1≤k→k+f≤n→Fa b p k→∃m,c9 b (kas_desc f p k 0)=(p,m,0)∧k≤m∧m≤k+f∧Fa b p m
 |0,k,h1,hn,h=>⟨k,rfl,Nat.le_refl _,Nat.le_refl _,h⟩
 |f+1,k,h1,hn,h=>by
  have e:c9 b (kas_desc (f+1) p k 0)=c9 b (if b (at' p k) (at' p (k - 1))=true then(if 0>0 then kas_desc f (kas_rev p (k - (0+1)) k) (k+1) 0 else kas_desc f p (k+1) 0)
   else .ask (p.getD (k - 1) 0) (p.getD k 0) fun d=>if d=true then .ret (p,k,0) else kas_desc f p (k+1) (0+1)):=rfl
  rw[e]
  by_cases hb:b (at' p k) (at' p (k - 1))=true
  ·rw[if_pos hb,if_neg (by omega)]
   obtain⟨m,e1,e2,e3,e4⟩:=t9 P f (k+1) (by omega) (by omega) (Fa.more L h h1 hb)
   exact⟨m,e1,by omega,by omega,e4⟩
  ·rw[if_neg hb]
   have hr:b (at' p (k - 1)) (at' p k)=true:=by
    rcases L.tot (at' p (k - 1)) (at' p k) (P.lt _ (by omega)) (P.lt _ (by omega)) (fun z=>by have:=P.inj _ _ (by omega) (by omega) z;omega) with q | q
    ·exact q
    ·exact absurd q hb
   refine⟨k,?_,Nat.le_refl _,by omega,h⟩
   show c9 b (if b (at' p (k - 1)) (at' p k)=true then KasT.ret (p,k,0) else kas_desc f p (k+1) (0+1))=_
   rw[if_pos hr]
   rfl
end
theorem dU(p:Array Nat)(k:Nat):at' p k=(p[k]?).getD 0:=by
 unfold at'
 rw[Array.getD_eq_getD_getElem?]
theorem Cr{p:Array Nat}{m:Nat}(hm:m≤p.size)(k:Nat):at' (kas_rev p 0 m) k=if k<m then at' p (m - 1 - k) else at' p k:=by
 have e:=getElem?_mirror_all (xs:=p) (i:=0) hm k
 rw[dU]
 show (((mirror p 0 m ((m - 0) / 2))[k]?).getD 0)=_
 rw[e]
 by_cases h:k<m
 ·rw[if_pos ⟨Nat.zero_le _,h⟩,if_pos h,dU,Nat.zero_add]
 ·rw[if_neg (fun z=>h z.2),if_neg h,dU]
theorem Ar{p:Array Nat}{k l:Nat}(hk:k<p.size)(hl:l≤k)(j:Nat):at' (bubble p k (k - l)) j=if j=l then at' p k else if l<j∧j≤k then at' p (j - 1) else at' p j:=by
 have e:=getElem?_bubble hk (k - l) (by omega) j
 have e2:k - (k - l)=l:=by omega
 rw[e2] at e
 rw[dU (bubble p k (k - l)),e,dU p k,dU p (j - 1),dU p j]
 by_cases c1:j=l
 ·rw[if_pos c1,if_pos c1]
 ·rw[if_neg c1,if_neg c1]
  by_cases c2:l<j∧j≤k
  ·rw[if_pos c2,if_pos c2]
  ·rw[if_neg c2,if_neg c2]
section
variable{n:Nat}{b:Nat→Nat→Bool}
theorem PN.rev{p:Array Nat}(P:PN n p){m:Nat}(hm:m≤n):PN n (kas_rev p 0 m):=by
 have ha:=Cr (p:=p) (m:=m) (by rw[P.sz];exact hm)
 refine⟨(mirror_size ..).trans P.sz,fun i hi=>?_,fun i j hi hj e=>?_⟩
 ·rw[ha]
  split
  ·exact P.lt _ (by omega)
  ·exact P.lt _ hi
 ·rw[ha,ha] at e
  split at e<;>split at e
  ·have:=P.inj _ _ (by omega) (by omega) e;omega
  ·have:=P.inj _ _ (by omega) hj e;omega
  ·have:=P.inj _ _ hi (by omega) e;omega
  ·exact P.inj _ _ hi hj e
theorem PN.bub{p:Array Nat}(P:PN n p){k l:Nat}(hk:k<n)(hl:l≤k):PN n (bubble p k (k - l)):=by
 have ha:=Ar (p:=p) (k:=k) (l:=l) (by rw[P.sz];exact hk) hl
 refine⟨(bubble_size ..).trans P.sz,fun i hi=>?_,fun i j hi hj e=>?_⟩
 ·rw[ha]
  split
  ·exact P.lt _ hk
  ·split
   ·exact P.lt _ (by omega)
   ·exact P.lt _ hi
 ·rw[ha,ha] at e
  split at e
  ·split at e
   ·omega
   ·split at e
    ·have:=P.inj _ _ hk (by omega) e;omega
    ·have:=P.inj _ _ hk hj e;omega
  ·split at e
   ·split at e
    ·have:=P.inj _ _ (by omega) hk e;omega
    ·split at e
     ·have:=P.inj _ _ (by omega) (by omega) e;omega
     ·have:=P.inj _ _ (by omega) hj e;omega
   ·split at e
    ·have:=P.inj _ _ hi hk e;omega
    ·split at e
     ·have:=P.inj _ _ hi (by omega) e;omega
     ·exact P.inj _ _ hi hj e
theorem Fa.rev{p:Array Nat}(P:PN n p){m:Nat}(hm:m≤n)(h:Fa b p m):Ri b (kas_rev p 0 m) m:=fun i j xO hj=>by
 have ha:=Cr (p:=p) (m:=m) (by rw[P.sz];exact hm)
 rw[ha,ha,if_pos (by omega),if_pos hj]
 exact h _ _ (by omega) (by omega)
variable(L:Lt n b)
include L
theorem CT{p:Array Nat}(P:PN n p){m:Nat}(h1:1≤m)(hm:m≤n)(h:Fa b p m):∃k q,c9 b (kas_tail3 m n p)=(k,q)∧PN n q∧1≤k∧k≤n∧Ri b q k:=by
 unfold kas_tail3
 rw[eI]
 obtain⟨a1,a2,a3,_⟩:=rp L (P.rev hm) (n - m) m h1 (by omega) (Fa.rev P hm h)
 exact⟨_,_,rfl,P.rev hm,by omega,by omega,a3⟩
theorem yS{p:Array Nat}(P:PN n p)(h2:2≤n):∃k q,c9 b (kas_count n p)=(k,q)∧PN n q∧1≤k∧k≤n∧Ri b q k:=by
 unfold kas_count
 rw[eI]
 obtain⟨a1,a2,a3,a4⟩:=rp L P (n - 1) 1 (Nat.le_refl _) (by omega) (fun i j xO hj=>by omega)
 generalize c9 b (kas_asc p (n - 1) 1)=m at a1 a2 a3 a4
 by_cases he:m=n
 ·subst he
  rw[if_pos (by simp)]
  exact⟨m,p,rfl,P,by omega,Nat.le_refl _,a3⟩
 ·rw[if_neg (by simpa using he)]
  by_cases hg:m>1
  ·rw[if_pos hg]
   have hb:b (p.getD 0 0) (p.getD (m - 1) 0)=true:=a3 0 (m - 1) (by omega) (by omega)
   show∃k q,c9 b (if b (p.getD 0 0) (p.getD (m - 1) 0)=true then KasT.ret (m,p) else kas_descPart m n (kas_rev p 0 m))=(k,q)∧_
   rw[if_pos hb]
   exact⟨m,p,rfl,P,by omega,by omega,a3⟩
  ·rw[if_neg hg]
   have hm:m=1:=by omega
   subst hm
   have hb:=a4 (by omega)
   unfold kas_descPart
   rw[eI]
   obtain⟨m,e1,e2,e3,e4⟩:=t9 L P (n - (1+1)) (1+1) (by omega) (by omega) (fun i j xO hj=>by
    have hi:i=0:=by omega
    have hj:j=1:=by omega
    subst hi hj
    exact hb)
   rw[e1]
   dsimp only
   rw[if_neg (by omega)]
   exact CT L P (by omega) (by omega) e4
theorem kR{p:Array Nat}(P:PN n p){k:Nat}(hk:k<n)(h:Ri b p k):∀(f l r:Nat),l≤r→r≤k→r - l≤f→(∀i,i<l→b (at' p i) (at' p k)=true)→(∀i,r≤i→i<k→b (at' p k) (at' p i)=true)→
 c9 b (kas_place p k f l r)≤k∧(∀i,i<c9 b (kas_place p k f l r)→b (at' p i) (at' p k)=true)∧∀i,c9 b (kas_place p k f l r)≤i→i<k→b (at' p k) (at' p i)=true
 |0,l,r,h1,h2,h3,h4,h5=>by
  have:r=l:=by omega
  subst this
  exact⟨h2,h4,h5⟩
 |f+1,l,r,h1,h2,h3,h4,h5=>by
  unfold kas_place
  by_cases Np:l≥r
  ·rw[if_pos Np]
   have:r=l:=by omega
   subst this
   exact⟨h2,h4,h5⟩
  ·rw[if_neg Np]
   have hm:(l+r) / 2<r:=by omega
   have Gs:l≤(l+r) / 2:=by omega
   show c9 b (if b (at' p k) (at' p ((l+r) / 2))=true then kas_place p k f l ((l+r) / 2) else kas_place p k f ((l+r) / 2+1) r)≤k∧(∀i,i<c9 b (if b (at' p k) (at' p ((l+r) / 2))=true then kas_place p k f l ((l+r) / 2) else kas_place p k f ((l+r) / 2+1) r)→_)∧∀i,c9 b (if b (at' p k) (at' p ((l+r) / 2))=true then kas_place p k f l ((l+r) / 2) else kas_place p k f ((l+r) / 2+1) r)≤i→_
   by_cases hb:b (at' p k) (at' p ((l+r) / 2))=true
   ·rw[if_pos hb]
    refine kR P hk h f l ((l+r) / 2) Gs (by omega) (by omega) h4 fun i hi OH=>?_
    by_cases e:i=(l+r) / 2
    ·rw[e];exact hb
    ·exact L.tr _ _ _ hb (h _ _ (by omega) OH)
   ·rw[if_neg hb]
    have hr:b (at' p ((l+r) / 2)) (at' p k)=true:=by
     rcases L.tot (at' p ((l+r) / 2)) (at' p k) (P.lt _ (by omega)) (P.lt _ hk) (fun z=>by have:=P.inj _ _ (by omega) hk z;omega) with q | q
     ·exact q
     ·exact absurd q hb
    refine kR P hk h f ((l+r) / 2+1) r (by omega) h2 (by omega) (fun i hi=>?_) h5
    by_cases e:i=(l+r) / 2
    ·rw[e];exact hr
    ·exact L.tr _ _ _ (h i ((l+r) / 2) (by omega) (by omega)) hr
theorem xD:∀(f:Nat) {p:Array Nat}{k:Nat},PN n p→k+f≤n→Ri b p k→PN n (c9 b (kas_bin f p k))∧Ri b (c9 b (kas_bin f p k)) (k+f)
 |0,p,k,P,_,h=>⟨P,h⟩
 |f+1,p,k,P,hn,h=>by
  have hk:k<n:=by omega
  unfold kas_bin
  rw[eI]
  obtain⟨a1,a2,a3⟩:=kR L P hk h k 0 k (Nat.zero_le _) (Nat.le_refl _) (by omega) (fun i hi=>by omega) (fun i h1 h2=>by omega)
  generalize c9 b (kas_place p k k 0 k)=l at a1 a2 a3
  have ha:=Ar (p:=p) (k:=k) (l:=l) (by rw[P.sz];exact hk) a1
  have hR:Ri b (bubble p k (k - l)) (k+1):=fun i j xO hj=>by
   rw[ha,ha]
   by_cases c1:i=l
   ·rw[if_pos c1,if_neg (by omega),if_pos ⟨by omega,by omega⟩]
    exact a3 _ (by omega) (by omega)
   ·rw[if_neg c1]
    by_cases c2:j=l
    ·rw[if_pos c2,if_neg (by omega)]
     exact a2 _ (by omega)
    ·rw[if_neg c2]
     by_cases c3:l<i∧i≤k
     ·rw[if_pos c3,if_pos ⟨by omega,by omega⟩]
      exact h _ _ (by omega) (by omega)
     ·rw[if_neg c3]
      by_cases c4:l<j∧j≤k
      ·rw[if_pos c4]
       exact h _ _ (by omega) (by omega)
      ·rw[if_neg c4]
       exact h _ _ xO (by omega)
  have:=xD f (P.bub hk a1) (by omega) hR
  rw[show k+(f+1)=k+1+f by omega]
  exact this
theorem CJ(h2:2≤n):PN n (c9 b (kas_sort n))∧Ri b (c9 b (kas_sort n)) n:=by
 have P0:PN n (List.toArray (List.range n)):=by
  have e:∀i,i<n→at' (List.toArray (List.range n)) i=i:=fun i hi=>by rw[dU];simp[hi]
  exact⟨by simp,fun i hi=>by rw[e i hi];exact hi,fun i j hi hj z=>by rw[e i hi,e j hj] at z;exact z⟩
 unfold kas_sort
 rw[eI]
 obtain⟨k,q,e,P,k1,kn,hR⟩:=yS L P0 h2
 rw[e]
 dsimp only
 by_cases d5:k<n
 ·rw[if_pos d5]
  have:=xD L (n - max k 1) (k:=max k 1) P (by omega) (by rw[show max k 1=k by omega];exact hR)
  rw[show max k 1+(n - max k 1)=n by omega] at this
  exact this
 ·rw[if_neg d5]
  have:k=n:=by omega
  subst this
  exact⟨P,hR⟩
end
def Asks{α:Type}(n:Nat)(P:α→Prop):KasT α→Prop
 | .ret a=>P a
 | .ask i j k=>i<n∧j<n∧∀c,Asks n P (k c)
theorem Asks.bind{α β:Type}{n:Nat}{P:α→Prop}{Q:β→Prop}{f:α→KasT β}:∀{t:KasT α},Asks n P t→(∀a,P a→Asks n Q (f a))→Asks n Q (t.bind f)
 | .ret a,h,hf=>hf a h
 | .ask i j k,h,hf=>⟨h.1,h.2.1,fun c=>Asks.bind (h.2.2 c) hf⟩
theorem wp_run{α:Type}{n:Nat}{P:α→Prop}{b:Nat→Nat→Bool}{cmp:Nat→Nat→(Bool→Shared→Prop)→Shared→Prop}{Q:α→Shared→Prop}{s:Shared}(hc:∀i j C,i<n→j<n→C (b i j) s→cmp i j C s):∀{t:KasT α},Asks n P t→Q (c9 b t) s→t.kasWp cmp Q s
 | .ret a,_,h=>h
 | .ask i j k,ha,h=>hc i j _ ha.1 ha.2.1 (wp_run hc (ha.2.2 _) h)
def Below(n:Nat)(p:Array Nat):Prop:=∀x∈p,x<n
section
variable{n:Nat}(hn:0<n)
include hn
theorem Below.at{p:Array Nat}(h:Below n p)(i:Nat):at' p i<n:=by
 rw[dU]
 cases e:p[i]? with
 |none=>exact hn
 |some x=>exact h x (Array.mem_of_getElem? e)
theorem Below.rev{p:Array Nat}(h:Below n p)(i j:Nat):Below n (kas_rev p i j):=fun x hx=>h x ((mirror_perm p i j ((j - i) / 2)).mem_iff.mp hx)
theorem Below.bub{p:Array Nat}(h:Below n p)(k d:Nat):Below n (bubble p k d):=fun x hx=>h x ((bubble_perm p k d).mem_iff.mp hx)
theorem mO{p:Array Nat}(h:Below n p):∀f k,Asks n (fun _=>True) (kas_asc p f k)
 |0,k=>trivial
 |f+1,k=>⟨Below.at hn h _,Below.at hn h _,fun c=>by
  show Asks n _ (if c=true then KasT.ret k else kas_asc p f (k+1))
  cases c
  ·exact mO h f (k+1)
  ·exact trivial⟩
theorem ir:∀f {p:Array Nat} k q,Below n p→Asks n (fun r=>Below n r.1) (kas_desc f p k q)
 |0,p,k,q,h=>h
 |f+1,p,k,q,h=>⟨Below.at hn h _,Below.at hn h _,fun c=>by
  cases c
  ·refine⟨Below.at hn h _,Below.at hn h _,fun d=>?_⟩
   cases d
   ·exact ir f _ _ h
   ·exact h
  ·show Asks n _ (if q>0 then kas_desc f (kas_rev p (k - (q+1)) k) (k+1) 0 else kas_desc f p (k+1) 0)
   split
   ·exact ir f _ _ (Below.rev hn h _ _)
   ·exact ir f _ _ h⟩
theorem pQ{p:Array Nat}(h:Below n p)(m r:Nat):Asks n (fun x=>Below n x.2) (kas_tail3 m r p):=Asks.bind (mO hn (Below.rev hn h 0 m) _ _) fun _ _=>Below.rev hn h 0 m
theorem mP{p:Array Nat}(h:Below n p)(m r:Nat):Asks n (fun x=>Below n x.2) (kas_descPart m r p):=Asks.bind (ir hn _ _ _ h) fun x hx=>by
 split
 ·exact pQ hn (Below.rev hn hx _ _) _ _
 ·exact pQ hn hx _ _
theorem vQ{p:Array Nat}(h:Below n p)(r:Nat):Asks n (fun x=>Below n x.2) (kas_count r p):=Asks.bind (mO hn h _ _) fun m _=>by
 split
 ·exact h
 ·split
  ·refine⟨Below.at hn h _,Below.at hn h _,fun c=>?_⟩
   cases c
   ·exact mP hn (Below.rev hn h _ _) _ _
   ·exact h
  ·exact mP hn h _ _
theorem iY{p:Array Nat}(h:Below n p)(k:Nat):∀f l r,Asks n (fun _=>True) (kas_place p k f l r)
 |0,l,r=>trivial
 |f+1,l,r=>by
  unfold kas_place
  split
  ·exact trivial
  ·refine⟨Below.at hn h _,Below.at hn h _,fun c=>?_⟩
   cases c
   ·exact iY h k f _ _
   ·exact iY h k f _ _
theorem tO:∀f {p:Array Nat} k,Below n p→Asks n (fun _=>True) (kas_bin f p k)
 |0,p,k,h=>trivial
 |f+1,p,k,h=>Asks.bind (iY hn h k _ _ _) fun l _=>tO f _ (Below.bub hn h _ _)
theorem yF:Asks n (fun _=>True) (kas_sort n):=by
 have h0:Below n (List.toArray (List.range n)):=fun x hx=>by simpa using hx
 refine Asks.bind (vQ hn h0 n) fun x hx=>?_
 split
 ·exact tO hn _ _ hx
 ·exact trivial
end
def dN:List Int→List Int→Bool
 |[],[]=>false
 |[],_::_=>true
 |_::_,[]=>false
 |x::xs,y::ys=>if x=y then dN xs ys else decide (x<y)
theorem r0:∀a b c:List Int,dN a b=true→dN b c=true→dN a c=true
 |[],[],_,h,_=>by cases h
 |[],_::_,[],_,h=>by cases h
 |[],_::_,_::_,_,_=>rfl
 |_::_,[],_,h,_=>by cases h
 |_::_,_::_,[],_,h=>by cases h
 |x::a,y::b,z::c,h1,h2=>by
  unfold dN at h1 h2⊢
  by_cases e1:x=y
  ·subst e1
   rw[if_pos rfl] at h1
   by_cases e2:x=z
   ·subst e2
    rw[if_pos rfl] at h2⊢
    exact r0 a b c h1 h2
   ·rw[if_neg e2] at h2⊢
    exact h2
  ·rw[if_neg e1] at h1
   have h1:=of_decide_eq_true h1
   by_cases e2:y=z
   ·subst e2
    rw[if_neg e1]
    exact decide_eq_true h1
   ·rw[if_neg e2] at h2
    have h2:=of_decide_eq_true h2
    rw[if_neg (by omega)]
    exact decide_eq_true (by omega)
theorem jC:∀a b:List Int,dN a b=true→dN b a=false
 |[],[],h=>by cases h
 |[],_::_,_=>rfl
 |_::_,[],h=>by cases h
 |x::a,y::b,h=>by
  unfold dN at h⊢
  by_cases e:x=y
  ·subst e
   rw[if_pos rfl] at h⊢
   exact jC a b h
  ·rw[if_neg e] at h
   have h:=of_decide_eq_true h
   rw[if_neg (fun z=>e z.symm)]
   exact decide_eq_false (by omega)
theorem nI:∀a b:List Int,a≠b→dN a b=true∨dN b a=true
 |[],[],h=>absurd rfl h
 |[],_::_,_=> .inl rfl
 |_::_,[],_=> .inr rfl
 |x::a,y::b,h=>by
  unfold dN
  by_cases e:x=y
  ·subst e
   rw[if_pos rfl,if_pos rfl]
   exact nI a b fun z=>h (by rw[z])
  ·rw[if_neg e,if_neg (fun z=>e z.symm)]
   by_cases q:x<y
   ·exact .inl (decide_eq_true q)
   ·exact .inr (decide_eq_true (by omega))
section
variable{prog:Program}{w:World}{A:Around}{E:Value→Shared→Prop}{s:Shared}
theorem uy{Q:Bool→Shared→Prop}:∀{us vs:List Value}{xs ys:List Int}(i:Nat) {fin:Bool},IntsAre us xs→IntsAre vs ys→fin=decide (xs.length<ys.length)→Q (dN xs ys) s→KatLex prog w A true fin Q (us.zip vs) i s
 |_,_,_,_,i,_, .nil, .nil,e,h=>by subst e;exact kat_nil h
 |_,_,_,_,i,_, .nil, .cons y t r,e,h=>by subst e;exact kat_nil h
 |_,_,_,_,i,_, .cons x t r, .nil,e,h=>by subst e;exact kat_nil h
 |_,_,_,_,i,_, .cons (vs:=us) (ns:=xs) x t r, .cons (vs:=vs) (ns:=ys) y u r',e,h=>by
  refine kat_cons (wpAny_eqBool_int ?_)
  by_cases q:x=y
  ·subst q
   rw[show (x==x)=true by simp]
   refine kat_yes (uy (i+1) r r' (by rw[e];simp) ?_)
   unfold dN at h
   rw[if_pos rfl] at h
   exact h
  ·rw[show (x==y)=false by simpa using q]
   unfold dN at h
   rw[if_neg q] at h
   refine kat_no ?_
   by_cases hi:(i==0)=true
   ·rw[hi]
    exact oneLt_int h
   ·rw[show (i==0)=false by simpa using hi]
    exact kat_one _ _ (PyProof.Rows.lt_int h)
def TupsAt(h:Heap):List Value→List (List Int)→Prop
 |[],[]=>True
 |v::vs,k::ks=>(∃a o us m,v= .ref a∧h.get? a=some o∧o.cls= .type "tuple"∧o.data= .seq (List.toArray us) m∧IntsAre us k∧k≠[])∧TupsAt h vs ks
 |_,_=>False
theorem TupsAt.len{h:Heap}:∀{vs:List Value}{ks:List (List Int)},TupsAt h vs ks→vs.length=ks.length
 |[],[],_=>rfl
 |v::vs,k::ks,t=>by rw[List.length_cons,List.length_cons,TupsAt.len t.2]
 |[],_::_,t=>t.elim
 |_::_,[],t=>t.elim
theorem TupsAt.get{h:Heap}:∀{vs:List Value}{ks:List (List Int)}{i:Nat},TupsAt h vs ks→i<vs.length→∃a o us m,vs.getD i Value.none= .ref a∧h.get? a=some o∧o.cls= .type "tuple"∧o.data= .seq (List.toArray us) m∧IntsAre us (ks.getD i [])∧ks.getD i []≠[]
 |v::vs,k::ks,0,t,_=>t.1
 |v::vs,k::ks,i+1,t,hi=>TupsAt.get (i:=i) t.2 (by simpa using hi)
 |[],_,_,_,hi=>by simp at hi
 |_::_,[],_,t,_=>t.elim
theorem TupsAt.keep{h h':Heap}{a:Addr}(k:∀b o,b≠a→h.get? b=some o→h'.get? b=some o)(ha:∀o,h.get? a=some o→o.cls≠ .type "tuple"):∀{vs:List Value}{ks:List (List Int)},TupsAt h vs ks→TupsAt h' vs ks
 |[],[],_=>trivial
 |v::vs,x::ks,⟨⟨b,o,us,m,e1,e2,e3,e4⟩,t⟩=>⟨⟨b,o,us,m,e1,k b o (fun z=>ha o (by rw[←z];exact e2) e3) e2,e3,e4⟩,TupsAt.keep k ha t⟩
 |[],_::_,t=>t.elim
 |_::_,[],t=>t.elim
theorem nr:∀{us:List Value}{xs:List Int},IntsAre us xs→us.length=xs.length
 |_,_, .nil=>rfl
 |_,_, .cons x t r=>by rw[List.length_cons,List.length_cons,nr r]
theorem TupsAt.firsts{M:Model}{h:Heap}:∀{vs:List Value}{ks:List (List Int)},TupsAt h vs ks→∃fs,KatTups h vs fs∧fs.length=vs.length∧∀v∈fs,Looks M h (typeOf v) (.type "int")
 |[],[],_=>⟨[],KatTups.nil,rfl,fun _ z=>by cases z⟩
 |v::vs,k::ks,⟨⟨a,o,us,m,e1,e2,e3,e4,e5,e6⟩,t⟩=>by
  obtain⟨fs,q1,q2,q3⟩:=TupsAt.firsts (M:=M) t
  subst e1
  cases e5 with
  |nil=>exact absurd rfl e6
  |cons x t r=>
   refine⟨.int x t::fs,KatTups.cons e2 e3 e4 (by simp) q1,by simp[q2],fun v hv=>?_⟩
   rcases List.mem_cons.mp hv with rfl | hv
   ·exact show Looks M h (pure (Value.type "int")) (Value.type "int") from .now
   ·exact q3 v hv
 |[],_::_,t=>t.elim
 |_::_,[],t=>t.elim
theorem asked{vs:List Value}{ks:List (List Int)}(t:TupsAt s.heap vs ks)(i j:Nat)(C:Bool→Shared→Prop)(hi:i<vs.length)(hj:j<vs.length)(h:C (dN (ks.getD i []) (ks.getD j [])) s):kas_ask prog w A (tuples' true) vs i j C s:=by
 obtain⟨a,o,us,m,e1,e2,_,e4,e5,_⟩:=t.get hi
 obtain⟨a',o',Qe,m',z_,HX,_,NX,MW,_⟩:=t.get hj
 unfold kas_ask
 rw[e1,z_]
 refine kat_lt e2 e4 HX NX (uy 0 e5 MW ?_ h)
 rw[List.size_toArray,List.size_toArray,nr e5,nr MW]
theorem Bz{α:Type}{l:List α}(h:l.Nodup){i j:Nat}(hi:i<l.length)(hj:j<l.length)(e:l[i]=l[j]):i=j:=by
 rcases Nat.lt_trichotomy i j with q | q | q
 ·exact absurd e (List.pairwise_iff_getElem.mp h i j hi hj q)
 ·exact q
 ·exact absurd e.symm (List.pairwise_iff_getElem.mp h j i hj hi q)
theorem q0{a:Addr}{c:Nat}{vs:List Value}{ks:List (List Int)}{P:PySem.Fin→Shared→Prop}(ho:s.heap.get? a=some (seqObj "list" vs.toArray c))(ht:TupsAt s.heap vs ks)(hd:ks.Nodup)(IL:vs.length<64)
 (h:∀(p:Array Nat) (h':Heap) (c':Nat),PN vs.length p→Ri (fun i j=>dN (ks.getD i []) (ks.getD j [])) p vs.length→h'.get? a=some (seqObj "list" (List.toArray (p.toList.map fun i=>vs.getD i Value.none)) c')→
  (∀b o,b≠a→s.heap.get? b=some o→h'.get? b=some o)→P (.done (.ret .none)) {s with heap:=h'}):wpAny (model prog w) A (Builtin.«list.sort» ⟨[.ref a],[]⟩) P E s:=by
 have Ad:sizeLine=16777216:=sizeLine_eq
 have s1:=Heap.SameBut.update s.heap a (Obj.mapSeq fun _=>(#[]:Array Value))
 obtain⟨e1,Nr⟩:∃e1,(s.heap.update a (Obj.mapSeq fun _=>(#[]:Array Value))).get? a=some (seqObj "list" #[] e1):=⟨_,get?_update_seq ho fun _=> #[]⟩
 have k1:∀b o,b≠a→s.heap.get? b=some o→(((s.heap.update a (Obj.mapSeq fun _=>(#[]:Array Value))).push (seqObj "tuple" vs.toArray 0)).push (seqObj "list" #[] 0)).get? b=some o:=fun b o hb e=>
  Heap.get?_push_of_some _ (Heap.get?_push_of_some _ ((s1.2 b hb).trans e))
 have LM:=Heap.get?_push_of_some (seqObj "list" #[] 0) (Heap.get?_push_of_some (seqObj "tuple" vs.toArray 0) Nr)
 have t3:=ht.keep k1 (fun o e z=>by rw[ho] at e;cases e;exact absurd (Value.type.inj z) (by decide))
 have fin:∀(st:SortSt) (p:Array Nat),PN vs.length p→Ri (fun i j=>dN (ks.getD i []) (ks.getD j [])) p vs.length→(arrOf st).map (·.2)=List.toArray (p.toList.map fun i=>vs.getD i Value.none)→failedOf st=none→
  wpAny (model prog w) A (do
   let touched:=(←seqEpoch a) !=e1
   Builtin.List.listUpdate (.ref a) fun _=>(arrOf st).map (·.2)
   if let some e:=failedOf st then rule "list.sort.comparison-raised";throw e
   if touched then rule "list.sort.modified";raiseError "ValueError" "list modified during sort"
   ret .none) P E {s with heap:=((s.heap.update a (Obj.mapSeq fun _=>(#[]:Array Value))).push (seqObj "tuple" vs.toArray 0)).push (seqObj "list" #[] 0)}:=fun st p hp hr he hf=>by
  have hz:(List.toArray (p.toList.map fun i=>vs.getD i Value.none)).size=vs.length:=by rw[List.size_toArray,List.length_map,Array.length_toList,hp.sz]
  rw[he,hf]
  refine wpAny_bind (seqEpoch_at LM rfl (wpAny_bind (listUpdate_at LM rfl ?_ (Nat.zero_le _) (by rw[hz,Ad];omega))))
  simp only[bne_self_eq_false,Bool.false_eq_true,if_false]
  have s2:=Heap.SameBut.update (((s.heap.update a (Obj.mapSeq fun _=>(#[]:Array Value))).push (seqObj "tuple" vs.toArray 0)).push (seqObj "list" #[] 0)) a (Obj.mapSeq fun _=>List.toArray (p.toList.map fun i=>vs.getD i Value.none))
  exact wpAny_pure (h p _ _ hp hr (get?_update_seq LM fun _=>List.toArray (p.toList.map fun i=>vs.getD i Value.none)) fun b o hb e=>(s2.2 b hb).trans (k1 b o hb e))
 rw[list_sort_plain]
 refine wpAny_bind (listItems_at ho rfl (wpAny_bind (listUpdate_at ho rfl (wpAny_bind (seqEpoch_at Nr rfl ?_)) (by rw[List.size_toArray,Ad];omega) (Nat.zero_le _))))
 refine wpAny_bind (wpAny_newTuple (wpAny_bind (wpAny_newList (wpAny_holding ?_) (Nat.zero_le _))) (by show vs.length≤_;rw[Ad];omega))
 show wpAny (model prog w) A _ P E {s with heap:=((s.heap.update a (Obj.mapSeq fun _=>(#[]:Array Value))).push (seqObj "tuple" vs.toArray 0)).push (seqObj "list" #[] 0)}
 dsimp only
 by_cases hs:vs.toArray.size<2
 ·rw[if_pos hs,if_pos hs]
  have Gp:vs.length<2:=by simpa using hs
  refine wpAny_bind (wpAny_pure (wpAny_bind (wpAny_pure ?_)))
  refine fin (SortSt.mk' general' (vs.toArray.zip vs.toArray) #[] 7 none) (List.toArray (List.range vs.length)) ⟨by simp,fun i hi=>?_,fun i j hi hj _=>by omega⟩ (fun i j xO hj=>by omega) ?_ rfl
  ·rw[dU];simp[hi]
  ·show (vs.toArray.zip vs.toArray).map (·.2)=_
   apply Array.toList_inj.mp
   refine List.ext_getElem (by simp) fun i a1 a2=>?_
   simp at a1
   simp[a1]
 ·rw[if_neg hs,if_neg hs]
  have Gp:2≤vs.length:=by
   have:¬vs.length<2:=by simpa using hs
   omega
  obtain⟨fs,q1,q2,q3⟩:=t3.firsts (M:=model prog w)
  refine wpAny_bind (kat_kind q1 (by omega) q3 rfl ?_)
  have hb:Lt vs.length (fun i j=>dN (ks.getD i []) (ks.getD j [])):=⟨fun i j k=>r0 _ _ _,fun i j=>jC _ _,fun i j hi hj xO=>nI _ _ fun z=>xO (by
   rw[ht.len] at hi hj
   rw[List.getD_eq_getElem?_getD,List.getD_eq_getElem?_getD,List.getElem?_eq_getElem hi,List.getElem?_eq_getElem hj] at z
   exact Bz hd hi hj (by simpa using z))⟩
  obtain⟨r1,r2⟩:=CJ hb Gp
  have run:=kat_run (prog:=prog) (w:=w) (A:=A) (E:=E) (ks:=vs) (vs:=vs) (κ:=tuples' true) (Q:=fun st s'=>s'={s with heap:=((s.heap.update a (Obj.mapSeq fun _=>(#[]:Array Value))).push (seqObj "tuple" vs.toArray 0)).push (seqObj "list" #[] 0)}∧∃p,PN vs.length p∧Ri (fun i j=>dN (ks.getD i []) (ks.getD j [])) p vs.length∧(arrOf st).map (·.2)=List.toArray (p.toList.map fun i=>vs.getD i Value.none)∧failedOf st=none)
   (G:=fun p s'=>s'={s with heap:=((s.heap.update a (Obj.mapSeq fun _=>(#[]:Array Value))).push (seqObj "tuple" vs.toArray 0)).push (seqObj "list" #[] 0)}∧PN vs.length p∧Ri (fun i j=>dN (ks.getD i []) (ks.getD j [])) p vs.length) rfl Gp IL
   (fun p oR s' a1 a2 a3 a4=>⟨a4.1,p,a4.2.1,a4.2.2,kat_snds rfl a2,a3⟩)
   (wp_run (s:={s with heap:=((s.heap.update a (Obj.mapSeq fun _=>(#[]:Array Value))).push (seqObj "tuple" vs.toArray 0)).push (seqObj "list" #[] 0)}) (fun i j C hi hj hC=>asked t3 i j C hi hj hC) (yF (by omega)) ⟨rfl,r1,r2⟩)
  refine wpAny_bind (wpAny_mono run ?_ fun _ _ e=>e)
  rintro⟨⟨⟩,oR⟩ s' ⟨rfl,p,a1,a2,a3,a4⟩
  exact fin oR p a1 a2 a3 a4
end
section
variable{prog:Program}{w:World}{A:Around}{E:Value→Shared→Prop}{s:Shared}
theorem qk{d:Addr}{od:Obj}{es:Array DictEntry}{ep:Nat}{Q:Value→Shared→Prop}(lo:(d==sysModules)=false)(ho:s.heap.get? d=some od)(hx:od.ExactDict)(hd:od.data= .dict es ep)
 (hQ:Q (.ref s.heap.objs.size) {s with heap:=s.heap.push {cls:= .type "dict_keyiterator",data:= .fields #[.ref d, .int 0 0, .int es.size 0, .int ep 0]} }):wpAny (model prog w) A (pyIter (.ref d)) Q E s:=by
 have hT:s.TypeIs (.ref d) "dict":=⟨od,ho,hx.1⟩
 refine wpAny_pyIter_slot hT F.slot_dict_iter (wpAny_call_entry F.slot_dict_iter hT F.entry_dict_iter ?_ (F.args_dict_iter_1 _))
 unfold Builtin.«dict.__iter__» Builtin.Dict.dictSlotNone
 refine wpAny_bind (wpAny_bind (wpAny_notOrdered_dict hT ?_))
 show wpAny _ _ (pure (Value.ref d)) _ _ s
 refine wpAny_pure ?_
 show wpAny _ _ (Builtin.Dict.showsAll d>>=_) _ _ s
 unfold Builtin.Dict.showsAll
 rw[if_neg (by rw[lo];exact Bool.false_ne_true)]
 refine wpAny_bind (wpAny_pure (wpAny_bind (wpAny_dictEntries ho hd (wpAny_bind (wpAny_dictEpoch ho hd ?_)))))
 refine wpAny_bind (wpAny_newObj_type (wpAny_pure ⟨_,rfl,"dict_keyiterator",_,⟨_,Heap.get?_push_size _ rfl,rfl⟩,F.slot_dict_keyiterator_next.lookup,?_⟩))
 simpa[rawInt] using hQ
theorem uD{it d:Addr}{od:Obj}{es:Array DictEntry}{i ep:Nat}{e:DictEntry}{Q:Option Value→Shared→Prop}(hit:s.heap.IsKeyIter it d i es.size ep)(y_:s.heap.get? d=some od)(mx:od.data= .dict es ep)(hx:es[i]? =some e)
 (hQ:∀h',h'.IsKeyIter it d (i+1) es.size ep→Heap.SameBut it s.heap h'→Q (some e.key) {s with heap:=h'}):wpAny (model prog w) A (pyNext (.ref it)) Q E s:=by
 obtain⟨o,ho,hc,hd⟩:=id hit
 have d5:i<es.size:=(Array.getElem?_eq_some_iff.mp hx).1
 have GC:Builtin.Dict_items.ownsTuple "dict_keyiterator"=false:=by decide
 unfold pyNext
 refine wpAny_bind (wpAny_attempt (wpAny_callSpecial?_slot (name:=Str.ofString "__next__") hit.typeIs F.slot_dict_keyiterator_next
  (wpAny_call_entry F.slot_dict_keyiterator_next hit.typeIs F.entry_dict_keyiterator_next ?_ (F.args_dict_keyiterator_next_1 _))))
 refine wpAny_bind (wpAny_pure (wpAny_bind (wpAny_bind ?_)))
 first | refine wpAny_bind (wpAny_typeNameOfWhole_keyiter hit.typeIs (wpAny_pure ?_)) | refine wpAny_bind (wpAny_typeNameOf_keyiter hit.typeIs (wpAny_pure ?_))
 refine wpAny_bind (wpAny_fieldsOf ho hd ?_)
 simp only[GC,Bool.false_eq_true,if_false]
 show wpAny _ _ (if (Value.ref d==Value.none)=true then _ else _) _ _ s
 rw[if_neg (show¬((Value.ref d==Value.none)=true) from Bool.false_ne_true)]
 refine wpAny_bind (wpAny_pure (wpAny_bind (wpAny_dictEntries y_ mx ?_)))
 rw[if_neg (by simp)]
 refine wpAny_bind (wpAny_pure (wpAny_bind (wpAny_dictEpoch y_ mx ?_)))
 rw[if_neg (by simp)]
 refine wpAny_pure ?_
 simp only[show¬((i:Int)<0) from by omega,if_false,Int.toNat_natCast,hx]
 refine wpAny_bind ?_
 first | refine wpAny_bind (wpAny_typeNameOfWhole_keyiter hit.typeIs (wpAny_pure ?_)) | refine wpAny_bind (wpAny_typeNameOf_keyiter hit.typeIs (wpAny_pure ?_))
 refine wpAny_bind (wpAny_isOneOf_keyiter hit.typeIs ?_)
 show wpAny _ _ (setField (.ref it) 1 (rawInt ((i:Int)+1))>>=_) _ _ s
 refine wpAny_bind (wpAny_setField ho hd (by simp) ?_)
 have y7:(s.heap.update it (Obj.mapFields (·.setIfInBounds 1 (rawInt ((i:Int)+1))))).IsKeyIter it d (i+1) es.size ep:=
  ⟨_,Heap.get?_update_self _ ho (Obj.isFreed_of_fields (Obj.data_mapFields hd _)),(Obj.cls_mapFields ..).trans hc,by rw[Obj.data_mapFields hd];simp[rawInt]⟩
 refine wpAny_bind (wpAny_holding (wpAny_bind (wpAny_isOneOf_keyiter (s:={s with heap:=s.heap.update it (Obj.mapFields (·.setIfInBounds 1 (rawInt ((i:Int)+1))))}) y7.typeIs ?_)))
 show wpAny _ _ (pure e.key) _ _ _
 exact wpAny_pure (wpAny_pure ⟨_,rfl,wpAny_pure (hQ _ y7 (Heap.SameBut.update ..))⟩)
theorem p8{it d:Addr}{od:Obj}{es:Array DictEntry}{ep i:Nat}{Q:Option Value→Shared→Prop}(hh:A.handled=none)(hit:s.heap.IsKeyIter it d i es.size ep)(hi:es.size≤i)(y_:s.heap.get? d=some od)(mx:od.data= .dict es ep)
 (hQ:∀h',Heap.ExtBut it s.heap h'→Q none {s with heap:=h'}):wpAny (model prog w) A (pyNext (.ref it)) Q E s:=by
 obtain⟨o,ho,hc,hd⟩:=id hit
 have GC:Builtin.Dict_items.ownsTuple "dict_keyiterator"=false:=by decide
 unfold pyNext
 refine wpAny_bind (wpAny_attempt (wpAny_callSpecial?_slot (name:=Str.ofString "__next__") hit.typeIs F.slot_dict_keyiterator_next
  (wpAny_call_entry F.slot_dict_keyiterator_next hit.typeIs F.entry_dict_keyiterator_next ?_ (F.args_dict_keyiterator_next_1 _))))
 refine wpAny_bind (wpAny_pure (wpAny_bind (wpAny_bind ?_)))
 first | refine wpAny_bind (wpAny_typeNameOfWhole_keyiter hit.typeIs (wpAny_pure ?_)) | refine wpAny_bind (wpAny_typeNameOf_keyiter hit.typeIs (wpAny_pure ?_))
 refine wpAny_bind (wpAny_fieldsOf ho hd ?_)
 simp only[GC,Bool.false_eq_true,if_false]
 show wpAny _ _ (if (Value.ref d==Value.none)=true then _ else _) _ _ s
 rw[if_neg (show¬((Value.ref d==Value.none)=true) from Bool.false_ne_true)]
 refine wpAny_bind (wpAny_pure (wpAny_bind (wpAny_dictEntries y_ mx ?_)))
 rw[if_neg (by simp)]
 refine wpAny_bind (wpAny_pure (wpAny_bind (wpAny_dictEpoch y_ mx ?_)))
 rw[if_neg (by simp)]
 refine wpAny_pure ?_
 simp only[show¬((i:Int)<0) from by omega,if_false,Int.toNat_natCast,Array.getElem?_eq_none hi]
 refine wpAny_bind ?_
 first | refine wpAny_bind (wpAny_typeNameOfWhole_keyiter hit.typeIs (wpAny_pure ?_)) | refine wpAny_bind (wpAny_typeNameOf_keyiter hit.typeIs (wpAny_pure ?_))
 show wpAny _ _ (setField (.ref it) 0 .none>>=_) _ _ s
 refine wpAny_bind (wpAny_setField ho hd (by simp) ?_)
 show wpAny _ _ (newExc (.type "StopIteration") []>>=_) _ _ _
 refine wpAny_bind ?_
 simp only[newExc,newTuple]
 refine wpAny_bind (wpAny_newObj_type ?_ (by size_fits))
 refine wpAny_bind (m:=firstArgMember _ _) (wpAny_of_eq (a:=Value.none) (by first | rfl | (simp only[firstArgMember];rfl)) ?_)
 refine wpAny_newObj_type ?_ (by size_fits)
 simp only[raiseNew]
 refine wpAny_bind (wpAny_handled ?_)
 rw[show A.in1.handled=none from hh]
 refine wpAny_bind (wpAny_pure (wpAny_throw ?_))
 refine wpAny_bind (wpAny_isInstance (T:="StopIteration") (b:=true) ⟨_,Heap.get?_push_size _ rfl,rfl⟩ isSubtype_stop ?_)
 exact wpAny_pure (hQ _ (((Heap.SameBut.update ..).extBut.push _).push _))
theorem AN{it d:Addr}{od:Obj}{es:Array DictEntry}{ep:Nat}{Q:Option Value→Shared→Prop}(hh:A.handled=none)(hit:s.heap.IsKeyIter it d es.size es.size ep)(y_:s.heap.get? d=some od)(mx:od.data= .dict es ep)
 (hQ:∀h',Heap.ExtBut it s.heap h'→Q none {s with heap:=h'}):wpAny (model prog w) A (pyNext (.ref it)) Q E s:=p8 hh hit (Nat.le_refl _) y_ mx hQ
def E_(es:Array DictEntry):Nat→Value→Prop:=fun i v=>∃e,es[i]? =some e∧v=e.key
theorem xl(hh:A.handled=none)(I d:Addr)(gN:d≠I){od:Obj}{es:Array DictEntry}{ep:Nat}(mx:od.data= .dict es ep):
 Walks prog w A I [I,d] [I] es.size (E_ es) (fun i h=>h.IsKeyIter I d i es.size ep∧h.get? d=some od) where
 sub:=fun b hb=>by simp at hb;simp[hb]
 frame:=fun _ _ _ st hk=>⟨st.1.at fun o e=>hk I (by simp) o e,hk d (by simp) _ st.2⟩
 item:=fun i s Q E hi st hQ=>by
  have hx:es[i]? =some es[i]:=Array.getElem?_eq_getElem hi
  exact uD st.1 st.2 mx hx fun h' y7 uk=>hQ _ h' s.toks ⟨_,hx,rfl⟩ ⟨y7,(uk.2 d gN).trans st.2⟩ fun b o hb e=>uk.extBut b o (fun h=>hb (by simp[h])) e
 done:=fun s Q E st hQ=>AN hh st.1 st.2 mx fun h' Lx=>hQ h' s.toks fun b o hb e=>Lx b o (fun h=>hb (by simp[h])) e
 self:=fun _ _ _ _ st hQ=>wpAny_pyIter_keyiter st.1 hQ
theorem CK{d:Addr}{od:Obj}{es:Array DictEntry}{ep:Nat}(lo:(d==sysModules)=false)(hx:od.ExactDict)(mx:od.data= .dict es ep):KdlSrc prog w "dict" d d es.size (E_ es) (fun h=>h.get? d=some od) where
 type:=fun _ hm=>⟨od,hm,hx.1⟩
 there:=fun _ hm=>⟨Heap.lt_size hm,Heap.lt_size hm⟩
 keep:=fun _ _ hm hk=>hk d (.inl rfl) od hm
 notList:=by decide
 notTuple:=by decide
 hint:=fun _ _ s _ hm hq=>kdl_hint_dict ⟨od,hm,hx.1⟩ hq
 iter:=fun _ _ hh hm=>⟨_,_,(fun _ _ hq=>qk lo hm hx mx hq),xl hh _ d (Nat.ne_of_lt (Heap.lt_size hm)) mx,⟨⟨_,Heap.get?_push_size _ rfl,rfl,rfl⟩,Heap.get?_push_of_some _ hm⟩⟩
end
end L3
namespace L3
open PySem
def insI(k:List Int):List (List Int)→List (List Int)
 |[]=>[k]
 |x::r=>if dN k x then k::x::r else x::insI k r
def sortI:List (List Int)→List (List Int)
 |[]=>[]
 |k::r=>insI k (sortI r)
def vP(l:List (List Int)):Prop:=l.Pairwise fun a b=>dN a b=true
theorem nq{k x:List Int}:∀{l:List (List Int)},x∈insI k l↔x=k∨x∈l
 |[]=>by simp[insI]
 |y::r=>by
  unfold insI
  split
  ·simp
  ·rw[List.mem_cons,nq,List.mem_cons]
   constructor
   ·rintro(h | h | h)<;>simp[h]
   ·rintro(h | h | h)<;>simp[h]
theorem qe{k:List Int}:∀{l:List (List Int)},vP l→k∉l→vP (insI k l)
 |[],_,_=>List.pairwise_singleton _ _
 |x::r,h,hk=>by
  have h:=List.pairwise_cons.mp h
  unfold insI
  split
  ·rename_i q
   refine List.pairwise_cons.mpr ⟨fun y hy=>?_,List.pairwise_cons.mpr h⟩
   rcases List.mem_cons.mp hy with rfl | hy
   ·exact q
   ·exact r0 _ _ _ q (h.1 y hy)
  ·rename_i q
   have hx:dN x k=true:=by
    rcases nI k x (fun z=>hk (by rw[z];exact List.mem_cons_self ..)) with z | z
    ·exact absurd z q
    ·exact z
   refine List.pairwise_cons.mpr ⟨fun y hy=>?_,qe h.2 fun z=>hk (List.mem_cons_of_mem _ z)⟩
   rcases nq.mp hy with rfl | hy
   ·exact hx
   ·exact h.1 y hy
theorem dm{x:List Int}:∀{l:List (List Int)},x∈sortI l↔x∈l
 |[]=>Iff.rfl
 |k::r=>by unfold sortI;rw[nq,dm,List.mem_cons]
theorem eU:∀{l:List (List Int)},l.Nodup→vP (sortI l)
 |[],_=>List.Pairwise.nil
 |k::r,h=>by
  have h:=List.nodup_cons.mp h
  exact qe (eU h.2) fun z=>h.1 (dm.mp z)
theorem j1:∀{a b:List (List Int)},vP a→vP b→(∀x,x∈a↔x∈b)→a=b
 |[],[],_,_,_=>rfl
 |[],y::b,_,_,h=>by have:=(h y).mpr (List.mem_cons_self ..);cases this
 |x::a,[],_,_,h=>by have:=(h x).mp (List.mem_cons_self ..);cases this
 |x::a,y::b,ha,hb,h=>by
  have ha:=List.pairwise_cons.mp ha
  have hb:=List.pairwise_cons.mp hb
  have e:x=y:=by
   rcases List.mem_cons.mp ((h x).mp (List.mem_cons_self ..)) with q | q
   ·exact q
   ·rcases List.mem_cons.mp ((h y).mpr (List.mem_cons_self ..)) with p | p
    ·exact p.symm
    ·have z1:=hb.1 x q
     have z2:=ha.1 y p
     rw[jC _ _ z1] at z2
     cases z2
  subst e
  have NB:∀k,dN k k≠true:=fun k z=>by have:=jC _ _ z;rw[z] at this;cases this
  rw[j1 ha.2 hb.2 fun z=>?_]
  constructor
  ·intro hz
   rcases List.mem_cons.mp ((h z).mp (List.mem_cons_of_mem _ hz)) with q | q
   ·subst q;exact absurd (ha.1 z hz) (NB z)
   ·exact q
  ·intro hz
   rcases List.mem_cons.mp ((h z).mpr (List.mem_cons_of_mem _ hz)) with q | q
   ·subst q;exact absurd (hb.1 z hz) (NB z)
   ·exact q
theorem wR:∀(n:Nat) (l:List Nat),l.Nodup→(∀x∈l,x<n)→l.length=n→∀k,k<n→k∈l
 |0,_,_,_,_,k,hk=>by omega
 |n+1,l,hd,hl,hn,k,hk=>by
  by_cases h:n∈l
  ·by_cases e:k=n
   ·subst e;exact h
   ·refine List.mem_of_mem_erase (wR n (l.erase n) (hd.erase n) (fun x hx=>?_) (by rw[List.length_erase_of_mem h,hn];rfl) k (by omega))
    have hx:=hd.mem_erase_iff.mp hx
    have:=hl x hx.2
    have:=hx.1
    omega
  ·cases l with
   |nil=>simp at hn
   |cons x r=>
    have hd:=List.nodup_cons.mp hd
    have lt:∀y∈x::r,y<n:=fun y hy=>by
     have:=hl y hy
     have:y≠n:=fun z=>h (by rw[←z];exact hy)
     omega
    exact absurd (wR n r hd.2 (fun y hy=>lt y (List.mem_cons_of_mem _ hy)) (by simpa using hn) x (lt x (List.mem_cons_self ..))) hd.1
theorem q9{ks:List (List Int)}{p:Array Nat}(hd:ks.Nodup)(P:PN ks.length p)(R:Ri (fun i j=>dN (ks.getD i []) (ks.getD j [])) p ks.length):(p.toList.map fun i=>ks.getD i [])=sortI ks:=by
 have hsz:p.toList.length=ks.length:=by rw[Array.length_toList];exact P.sz
 have H0:∀i (h:i<p.toList.length),p.toList[i]=at' p i:=fun i h=>by
  have h':i<p.size:=by rw[Array.length_toList] at h;exact h
  rw[dU,Array.getElem?_eq_getElem h']
  simp
 refine j1 ?_ (eU hd) fun x=>?_
 ·refine List.pairwise_iff_getElem.mpr fun i j hi hj xO=>?_
  rw[List.length_map] at hi hj
  rw[List.getElem_map,List.getElem_map,H0 i hi,H0 j hj]
  exact R i j xO (by omega)
 ·rw[dm]
  constructor
  ·intro hx
   obtain⟨i,hi,rfl⟩:=List.mem_map.mp hx
   obtain⟨j,hj,rfl⟩:=List.mem_iff_getElem.mp hi
   have:=P.lt j (by omega)
   rw[H0 j hj,List.getD_eq_getElem?_getD,List.getElem?_eq_getElem this]
   exact List.getElem_mem this
  ·intro hx
   obtain⟨k,hk,rfl⟩:=List.mem_iff_getElem.mp hx
   have xQ:k∈p.toList:=by
    have hn:p.toList.Nodup:=List.pairwise_iff_getElem.mpr fun i j hi hj xO z=>by
     rw[H0 i hi,H0 j hj] at z
     have:=P.inj i j (by omega) (by omega) z
     omega
    exact wR ks.length p.toList hn (fun x hx=>by
     obtain⟨j,hj,rfl⟩:=List.mem_iff_getElem.mp hx
     rw[H0 j hj]
     exact P.lt j (by omega)) hsz k hk
   refine List.mem_map.mpr ⟨k,xQ,?_⟩
   rw[List.getD_eq_getElem?_getD,List.getElem?_eq_getElem hk]
   rfl
end L3
namespace L3
open PySem PySem.Spec L2 SeqAt HT
open PyProof.Rows hiding St
def tupI(k:List Int):D:= .tup (k.map D.int)
def Fz:D→Option (List Int)
 | .tup ds=>nums ds
 |_=>none
def gb:List D→Option (List (List Int))
 |[]=>some []
 |d::ds=>match Fz d,gb ds with
  |some k,some ks=>some (k::ks)
  |_,_=>none
def dY(ks:List (List Int)):Bool:=decide ks.Nodup&&decide (ks.length<64)&&ks.all fun k=>!k.isEmpty
def b6(H:Hp):List V→List (List Int)→Prop:=Paired fun v k=>∃a,v= .ref a∧H a=some (.tup (k.map V.int))
theorem qg{K:W.Frag}{F H:Hp}(hs:Same F H):∀{ds:List D}{vs:List V}{ks:List (List Int)},gb ds=some ks→DenL K F ds vs→b6 H vs ks∧b6 F vs ks
 |[],_,_,e,h=>by cases e;cases (show _=_ from h);exact⟨.nil, .nil⟩
 |d::ds,_,_,e,⟨v,r,h1,h2,h3⟩=>by
  subst h1
  unfold gb at e
  split at e
  ·rename_i k ks e1 e2
   cases e
   obtain⟨Pg,Ph⟩:=qg hs e2 h3
   cases d with
   |tup es=>
    obtain⟨a,ws,rfl,k2,k3,_⟩:=h2
    have:=fK e1 k3
    subst this
    exact⟨.cons ⟨a,rfl,hs _ _ k2⟩ Pg, .cons ⟨a,rfl,k2⟩ Ph⟩
   |_=>cases e1
  ·cases e
theorem oE{K:W.Frag}{F:Hp}:∀{ws:List V}{ks:List (List Int)},b6 F ws ks→(∀k∈ks,k.length≤lim)→DenL K F (ks.map tupI) ws
 |_,_, .nil,_=>rfl
 |_,_, .cons (b:=k) h t,hl=>by
  obtain⟨a,rfl,h⟩:=h
  exact .cons ⟨a,_,rfl,h,DenL.ints k,by rw[List.length_map];exact hl k (List.mem_cons_self ..)⟩ (oE t fun k hk=>hl k (List.mem_cons_of_mem _ hk))
theorem kU{X:Cx}{pins:List (Addr×Obj)}{σ:St}{H:Hp}{s:Shared}(I:Inv X pins σ H s):∀{vs:List V}{aG:List Value}{ks:List (List Int)},b6 H vs ks→Vals vs aG→(∀k∈ks,k≠[])→TupsAt s.heap aG ks
 |_,_,_, .nil,r,_=>by cases r;exact trivial
 |_,_,_, .cons (b:=k) h t,r,hn=>by
  obtain⟨a,rfl,h⟩:=h
  cases r with
  |cons r1 r2=>
   cases (show _=_ from r1)
   obtain⟨us,ru,pt,_⟩:=I.tuple (SqT.of (K:=X.K) h)
   obtain⟨o,q1,q2,m,q3⟩:=pt
   exact⟨⟨a,o,us,m,rfl,q1,q2,q3,intsAre_of ru,hn k (List.mem_cons_self ..)⟩,kU I t r2 fun k hk=>hn k (List.mem_cons_of_mem _ hk)⟩
theorem jZ{H:Hp}:∀{vs:List V}{ks:List (List Int)}{i:Nat},b6 H vs ks→i<vs.length→∃a,vs.getD i .non= .ref a∧H a=some (.tup ((ks.getD i []).map V.int))
 |_,_,i, .nil,hi=>by simp at hi
 |_,_,0, .cons h t,_=>h
 |_,_,i+1, .cons h t,hi=>jZ (i:=i) t (by simpa using hi)
theorem g7{H:Hp}:∀{vs:List V}{ks:List (List Int)},b6 H vs ks→vs.length=ks.length
 |_,_, .nil=>rfl
 |_,_, .cons h t=>by rw[List.length_cons,List.length_cons,g7 t]
theorem iE{H:Hp}{vs:List V}{ks:List (List Int)}(h:b6 H vs ks):∀{is:List Nat},(∀i∈is,i<vs.length)→b6 H (is.map fun i=>vs.getD i .non) (is.map fun i=>ks.getD i [])
 |[],_=> .nil
 |i::is,hi=> .cons (jZ h (hi i (List.mem_cons_self ..))) (iE h fun j hj=>hi j (List.mem_cons_of_mem _ hj))
theorem lh:∀{vs:List V}{us:List Value}(i:Nat),Vals vs us→i<vs.length→RelV (vs.getD i .non) (us.getD i Value.none)
 |_,_,i, .nil,hi=>by simp at hi
 |_,_,0, .cons h t,_=>h
 |_,_,i+1, .cons h t,hi=>lh i t (by simpa using hi)
theorem lj{vs:List V}{us:List Value}(h:Vals vs us):∀{is:List Nat},(∀i∈is,i<vs.length)→Vals (is.map fun i=>vs.getD i .non) (is.map fun i=>us.getD i Value.none)
 |[],_=> .nil
 |i::is,hi=> .cons (lh i h (hi i (List.mem_cons_self ..))) (lj h fun j hj=>hi j (List.mem_cons_of_mem _ hj))
section
variable{X:Cx}{Xw:Nat→Hp→Prop}{e:Expr}{δs:DA}{pos p:Pos}
theorem qh{K:W.Frag}{F:Hp}:∀{ds:List D}{vs:List V}{ks:List (List Int)},gb ds=some ks→DenL K F ds vs→∀k∈ks,k.length≤lim
 |[],_,_,e,_=>by cases e;exact fun k hk=>by cases hk
 |d::ds,_,_,e,⟨v,r,h1,h2,h3⟩=>by
  unfold gb at e
  split at e
  ·rename_i k ks e1 e2
   cases e
   intro k' vL
   rcases List.mem_cons.mp vL with rfl | vL
   ·cases d with
    |tup es=>
     obtain⟨a,ws,rfl,k2,k3,k4⟩:=h2
     have:=fK e1 k3
     have hl:=k3.len
     rw[this,List.length_map] at hl
     omega
    |_=>cases e1
   ·exact qh e2 h3 k' vL
  ·cases e
theorem iG:∀l:List (List Int),(sortI l).length=l.length
 |[]=>rfl
 |k::r=>by
  have ins:∀(k:List Int) (l:List (List Int)),(insI k l).length=l.length+1:=by
   intro k l
   induction l with
   |nil=>rfl
   |cons x l ih=>
    unfold insI
    split
    ·rfl
    ·rw[List.length_cons,ih,List.length_cons]
  unfold sortI
  rw[ins,iG r,List.length_cons]
end
def nz(k:List Int):List Key:=k.map Sum.inl
def J3:List V→Hp→VK→Prop:=fun xs H Q=>∃p aw ks,xs=[.ref p]∧Rd H p (.dT aw)∧aw.map (·.1)=ks.map nz∧dY ks=true∧∀(q:Addr) (ws:List V),H q=none→b6 H ws (sortI ks)→Q (.ref q) (upd H q (.lst ws))
theorem qo{H:Hp}:∀{aw:List (List Key×V)}{xs:List (List Key×Addr×Value)}{ks:List (List Int)},Paired (fun (p:List Key×V) (q:List Key×Addr×Value)=>p.1=q.1∧H q.2.1=some (.tup (p.1.map kV))∧RelV p.2 q.2.2) aw xs→
 aw.map (·.1)=ks.map nz→b6 H (xs.map fun x=>V.ref x.2.1) ks
 |_,_,[], .nil,_=> .nil
 |_,_,_::_, .nil,e=>by simp at e
 |_,_,[], .cons h t,e=>by simp at e
 |_,_,k::ks, .cons h t,e=>by
  rw[List.map_cons,List.map_cons] at e
  injection e with e1 e2
  refine .cons ⟨_,rfl,?_⟩ (qo t e2)
  have hk:(nz k).map kV=k.map V.int:=by unfold nz;rw[List.map_map];rfl
  rw[h.2.1,e1,hk]
section
variable{X:Cx}{Xw:Nat→Hp→Prop}{e:Expr}{δs:DA}{pos p:Pos}
theorem yO(hc:X.calm=true):CallR X (.builtin "sorted") J3:=by
 intro pins s σ H xs us Q I r h
 obtain⟨a,aw,ks,rfl,hH,DI,hk,q⟩:=h
 obtain⟨u,rfl,r1⟩:=r.one
 cases (show u=_ from r1)
 obtain⟨z,lo,xs,rel,o,es,ep,g1,g2,g3,g4,g5⟩:=(show ObjOk X.prog X.w H s.heap a (.dT aw) from hH.ok I.hok)
 unfold dY at hk
 rw[Bool.and_eq_true,Bool.and_eq_true] at hk
 have hd:ks.Nodup:=of_decide_eq_true hk.1.1
 have IL:ks.length<64:=of_decide_eq_true hk.1.2
 have gN:∀k∈ks,k≠[]:=fun k vL z=>by have:=List.all_eq_true.mp hk.2 k vL;rw[z] at this;cases this
 have hr:=qo rel DI
 have Ab:=g7 hr
 rw[List.length_map] at Ab
 have Kz:es.size=xs.length:=by rw[←Array.length_toList,g4,List.length_map]
 have Ad:sizeLine=16777216:=sizeLine_eq
 refine Calls.call_function_entry kind_sorted plain_sorted entry_sorted (args_sorted1 _) ?_
 unfold Builtin.«sorted»
 refine wpAny_bind (m:=checkCount "sorted" 1 1 _) (wpAny_pure (wpAny_bind (PySem.W.kdu_collect (A:=X.A.in1) (CK lo g2 g3) (I.ok.hd hc) g1 (by rw[Kz,Ad];omega) fun h1 tk acc Bn pz=>?_)))
 have IS:acc.toList.length=xs.length:=by rw[Array.length_toList,←Kz];exact pz.1
 have I1:Inv X pins σ H {s with heap:=h1,toks:=tk}:=I.kept (t':=tk) fun b ob e=>Bn b ob e
 have rv:Vals (xs.map fun x=>V.ref x.2.1) acc.toList:=by
  have ext:∀{vs:List V}{us:List Value},vs.length=us.length→(∀(i:Nat) (v:V) (u:Value),vs[i]? =some v→us[i]? =some u→RelV v u)→Vals vs us:=by
   intro vs
   induction vs with
   |nil=>intro us h _;cases us with | nil=>exact .nil | cons _ _=>simp at h
   |cons v vs ih=>
    intro us h hh
    cases us with
    |nil=>simp at h
    |cons u us=>exact .cons (hh 0 v u rfl rfl) (ih (by simpa using h) fun i v u h1 h2=>hh (i+1) v u h1 h2)
  refine ext (by rw[List.length_map,IS]) fun i v u e1 e2=>?_
  rw[Array.getElem?_toList] at e2
  obtain⟨en,q1,q2⟩:=pz.2 i u e2
  rw[←Array.getElem?_toList,g4,List.getElem?_map] at q1
  rw[List.getElem?_map] at e1
  cases w:xs[i]? with
  |none=>rw[w] at e1;cases e1
  |some x=>
   rw[w] at e1 q1
   cases e1
   cases q1
   exact q2
 have ht:=kU I1 hr rv gN
 refine wpAny_bind (wpAny_newList ?_ (by rw[Ad];omega))
 have Gz:(h1.push (seqObj "list" acc.toList.toArray 0)).get? h1.objs.size=some (seqObj "list" acc.toList.toArray 0):=Heap.get?_push_size _ rfl
 refine wpAny_bind (wpAny_holding (wpAny_call_entry slot_list_sort ⟨_,Gz,rfl⟩ entry_list_sort (q0 (s:={s with heap:=h1.push (seqObj "list" acc.toList.toArray 0),toks:=tk}) Gz
  (ht.keep (a:=h1.objs.size) (fun b o _ e=>Heap.get?_push_of_some _ e) (fun o e=>absurd (Heap.lt_size e) (Nat.lt_irrefl _))) hd (by omega) fun P h' c' hP hR A4 A7=>?_) (args_list_sort _)))
 have HZ:∀i∈P.toList,i<(xs.map fun x=>V.ref x.2.1).length:=fun i hi=>by
  obtain⟨j,hj,rfl⟩:=List.mem_iff_getElem.mp hi
  have h':j<P.size:=by rw[Array.length_toList] at hj;exact hj
  have:=hP.lt j (by rw[hP.sz] at h';exact h')
  rw[dU,Array.getElem?_eq_getElem h'] at this
  have e:P.toList[j]=P[j]:=by simp
  rw[e,List.length_map]
  have:P[j]<acc.toList.length:=this
  omega
 have Ll:PN ks.length P:=by rw[←Ab,←IS];exact hP
 have Lm:Ri (fun i j=>dN (ks.getD i []) (ks.getD j [])) P ks.length:=by rw[←Ab,←IS];exact hR
 have H_:=q9 hd Ll Lm
 have Jn:=iE hr HZ
 rw[H_] at Jn
 refine⟨_,rfl,wpAny_pure ⟨_,rfl,⟨.ref h1.objs.size,_,I1.laid (a:=h1.objs.size) (t':=tk) (o:= .lst (P.toList.map fun i=>(xs.map fun x=>V.ref x.2.1).getD i .non)) (fun b ob e=>A7 b ob (Nat.ne_of_lt (Heap.lt_size e)) (Heap.get?_push_of_some _ e)) (Nat.le_refl _) ?_,rfl,q _ _ (I1.hok.fresh (Nat.le_refl _)) Jn⟩⟩⟩
 exact⟨by rw[List.length_map,Array.length_toList,hP.sz,Ad];omega,_,c',lj rv HZ,A4⟩
theorem qS{F F':Hp}(e:Same F F'):∀{ws:List V}{ks:List (List Int)},b6 F ws ks→b6 F' ws ks
 |_,_, .nil=> .nil
 |_,_, .cons ⟨b,q1,q2⟩ t=> .cons ⟨b,q1,e _ _ q2⟩ (qS e t)
theorem oF{F H:Hp}(hs:Same F H):∀{ws:List V}{ks:List (List Int)},b6 H ws ks→∃F',Ext F H F' H∧b6 F' ws ks
 |_,_, .nil=>⟨F,Ext.refl hs, .nil⟩
 |_,_, .cons h t=>by
  obtain⟨a,rfl,h⟩:=h
  obtain⟨F1,e1,r1⟩:=oF hs t
  have e2:=Ext.tup (F:=F1) e1.fh h
  refine⟨_,e1.trans e2, .cons ⟨a,rfl,aF⟩ ?_⟩
  exact qS e2.ff r1
def qf:List Key→Option (List Int)
 |[]=>some []
 | .inl i::r=>(qf r).map (i:: ·)
 |_=>none
def eQ:List (List Key)→Option (List (List Int))
 |[]=>some []
 |k::r=>match qf k,eQ r with
  |some x,some xs=>some (x::xs)
  |_,_=>none
theorem uo:∀{k:List Key}{x:List Int},qf k=some x→k=nz x
 |[],_,e=>by cases e;rfl
 | .inl i::r,_,e=>by
   unfold qf at e
   cases q:qf r with
   |none=>rw[q] at e;cases e
   |some y=>rw[q] at e;cases e;rw[uo q];rfl
 | .inr _::r,_,e=>by cases e
theorem kB:∀{kk:List (List Key)}{ks:List (List Int)},eQ kk=some ks→kk=ks.map nz
 |[],_,e=>by cases e;rfl
 |k::r,_,e=>by
  unfold eQ at e
  split at e
  ·rename_i x xs e1 e2
   cases e
   rw[List.map_cons,←uo e1,←kB e2]
  ·cases e
def oQ:List D→M D
 |[.dct kk ds]=>match eQ kk with
  |some ks=>if dY ks&&ks.all (fun k=>decide (k.length≤lim)) then M.ret (.lst ((sortI ks).map tupI)) else M.stuck
  |none=>M.stuck
 |_=>M.stuck
theorem iJ{α β:Type}:∀{a:List α}{b:List β},a.length=b.length→(a.zip b).map (·.1)=a
 |[],[],_=>rfl
 |x::a,y::b,h=>by rw[List.zip_cons_cons,List.map_cons,iJ (by simpa using h)]
 |[],_::_,h=>by simp at h
 |_::_,[],h=>by simp at h
theorem yn(hc:X.calm=true)(hg:Gl X "sorted")(hm:X.mg "sorted"=none)(hb:bootBuiltins "sorted"=some (.builtin "sorted"))(ha:mC X Xw [e] δs)(he:starEach [e] X.env=[(false,eval e X.env)]:=by rfl):PD X Xw (.Call (.Name "sorted" p) [e] [] pos) (dA oQ δs):=
 dF (yO hc) (fun Xw F H vs ds Q s h w=>by
  unfold oQ at w
  split at w
  ·rename_i kk ds
   obtain⟨v,rfl,h1⟩:=h.one
   obtain⟨a,ob,ws,rfl,h2,h3,h4,h5⟩:=h1
   split at w
   ·rename_i ks DJ
    split at w
    ·rename_i hok
     rw[Bool.and_eq_true] at hok
     have hl:∀k∈ks,k.length≤lim:=fun k hk=>of_decide_eq_true (List.all_eq_true.mp hok.2 k hk)
     have IL:ks.length<64:=by
      have:=hok.1
      unfold dY at this
      rw[Bool.and_eq_true,Bool.and_eq_true] at this
      exact of_decide_eq_true this.1.2
     refine⟨a,_,ks,rfl, .inr ⟨ob,s _ _ h2⟩,by rw[iJ (by rw[h4];exact h3.len),kB DJ],hok.1,fun q us hq hr=>?_⟩
     obtain⟨F1,e1,r1⟩:=oF s hr
     have e2:=Ext.lay (o:= .lst us) e1.fh hq
     exact WP.fin w (e1.trans e2) ⟨q,_,rfl,aF,DenL.mono e2.ff (oE r1 fun k hk=>hl k (dm.mp hk)),by rw[List.length_map,iG];unfold lim;omega⟩
    ·exact w.elim
   ·exact w.elim
  ·exact w.elim) hg hm hb ha (by decide) (by decide) he rfl
end
end L3
namespace L3
open PySem PySem.Spec L2
open PyProof.Rows hiding St
def orM{α:Type}(a b:M α):M α:=match a with
 |none=>b
 |some r=>some r
def GH(a b:DA):DA:=fun ρ=>orM (a ρ) (b ρ)
section
variable{X:Cx}{Xw:Nat→Hp→Prop}{e tg:Expr}{es:List Expr}{δ δ':DE}{δi δi' δs:DA}{τ:DT}
theorem Eo(h:xr X Xw tg e δi)(h':xr X Xw tg e δi'):xr X Xw tg e (GH δi δi'):=fun pins s σ H Q I ⟨F,ρ,S,w⟩=>by
 unfold GH orM at w
 cases q:δi ρ with
 |none=>rw[q] at w;exact h' pins s σ H Q I ⟨F,ρ,S,w⟩
 |some r=>rw[q] at w;exact h pins s σ H Q I ⟨F,ρ,S,by rw[q];exact w⟩
theorem fR{st:Stmt}:iL X Xw st (fun _=>M.stuck):=fun F₀ H₀ pins s σ H D I ⟨F,ρ,S,w⟩=>w.elim
end
def fgt:List Nat→aX→aX
 |[],ρ=>ρ
 |i::is,ρ=>fgt is (ρ.set i none)
def JK(f:aX→aX):Out→M Out
 | .nx ρ=>M.ret (.nx (f ρ))
 | .rt d=>M.ret (.rt d)
def cH(is:List Nat)(τ:DS):DS:=fun ρ=>τ ρ>>=JK (fgt is)
theorem StOk.fgt1{K:W.Frag}{F₀ H₀ F H:Hp}{σ:St}{ρ:aX}(s:StOk K F₀ H₀ F H σ ρ)(i:Nat):StOk K F₀ H₀ F H σ (ρ.set i none):=by
 have get:∀(j:Nat) (sl:Sl),(ρ.set i none)[j]? =some (some sl)→ρ[j]? =some (some sl):=fun j sl e=>by
  by_cases hj:j=i
  ·subst hj
   by_cases hl:j<ρ.length
   ·rw[List.getElem?_set_self hl] at e;cases e
   ·rw[List.getElem?_eq_none (by simpa using hl)] at e;cases e
  ·rw[List.getElem?_set_ne (Ne.symm hj)] at e;exact e
 exact⟨s.ext,⟨s.st.fh,fun j sl e=>s.st.den j sl (get j sl e)⟩,by simp[s.len],fun j c a e e'=>s.own j c a (get j _ e) e',fun j k c c' a e1 e2 e3 e4=>s.sep j k c c' a (get j _ e1) (get k _ e2) e3 e4⟩
theorem StOk.fgt{K:W.Frag}{F₀ H₀ F H:Hp}{σ:St}:∀(is:List Nat) {ρ:aX},StOk K F₀ H₀ F H σ ρ→StOk K F₀ H₀ F H σ (L3.fgt is ρ)
 |[],_,s=>s
 |i::is,_,s=>StOk.fgt is (s.fgt1 i)
theorem WPS.fgt{K:W.Frag}{Xw:Nat→Hp→Prop}{F₀ H₀:Hp}{is:List Nat}{m:M Out}{Dn:Ends}(w:WPS K Xw F₀ H₀ (m>>=JK (L3.fgt is)) Dn):WPS K Xw F₀ H₀ m Dn:=by
 match m,w with
 |none,w=>exact w
 |some (.ok (.nx ρ)),w=>exact fun σ F H s=>w σ F H (s.fgt is)
 |some (.ok (.rt d)),w=>exact w
 |some (.ex n),w=>exact w
section
variable{X:Cx}{Xw:Nat→Hp→Prop}{st:Stmt}{NN:List Stmt}{τ:DS}{is:List Nat}
theorem bI(h:PSDs X Xw NN τ):PSDs X Xw NN (cH is τ):=fun F₀ H₀=>PSs.weak (h F₀ H₀) fun D σ H ⟨F,ρ,s,w⟩=>⟨F,ρ,s,WPS.fgt w⟩
end
def N9:Option Sl→Option Sl
 |some (.ow c)=>some (.fz c.d)
 |x=>x
def Fo(ρ:aX):aX:=ρ.map N9
def refA(h:Heap)(P:Addr→Prop)[DecidablePred P](H:Hp):Hp:=fun b=>if P b then(H b).map (mw ((h.get? b).getD {cls:= .none,data:= .fields #[]})) else H b
theorem v8(ob:Obj)(o:HO):mw ob o=o∨((∃k,o= .dT k)∨∃k,o= .dK k)∧mw ob o= .frz ob o:=by
 cases o<;>first | exact .inl rfl | exact .inr ⟨.inl ⟨_,rfl⟩,rfl⟩ | exact .inr ⟨.inr ⟨_,rfl⟩,rfl⟩
section
variable{X:Cx}{pins:List (Addr×Obj)}{σ:St}{H:Hp}{s:Shared}{P:Addr→Prop}[DecidablePred P]
theorem fT{h:Heap}{b:Addr}(e:H b=none):refA h P H b=none:=by
 unfold refA;split
 ·rw[e];rfl
 ·exact e
theorem qR{h:Heap}{b:Addr}{o:HO}(e:H b=some o):refA h P H b=some o∨((∃k,o= .dT k)∨∃k,o= .dK k)∧P b∧refA h P H b=some (.frz ((h.get? b).getD {cls:= .none,data:= .fields #[]}) o):=by
 unfold refA;split
 ·rename_i hp
  rw[e]
  rcases v8 ((h.get? b).getD {cls:= .none,data:= .fields #[]}) o with q | ⟨q1,q2⟩
  ·exact .inl (by show some _=_;rw[q])
  ·exact .inr ⟨q1,hp,by show some _=_;rw[q2]⟩
 ·exact .inl e
theorem fS{h:Heap}{b:Addr}{o:HO}(e:H b=some o)(n1:∀k,o≠ .dT k)(n2:∀k,o≠ .dK k):refA h P H b=some o:=by
 rcases qR (P:=P) (h:=h) e with q | ⟨⟨k,q⟩ | ⟨k,q⟩,_⟩
 ·exact q
 ·exact absurd q (n1 k)
 ·exact absurd q (n2 k)
theorem Inv.refA(I:Inv X pins σ H s):Inv X pins σ (L3.refA s.heap P H) s:=by
 have obj:∀b o,H b=some o→((∃k,o=HO.dT k)∨∃k,o= .dK k)→∃ob,s.heap.get? b=some ob:=fun b o e hu=>by
  have hk:=I.hok b o e
  rcases hu with⟨k,h1⟩ | ⟨k,h1⟩
  ·subst h1;obtain⟨_,_,_,_,ob,_,_,q,_⟩:=hk;exact⟨ob,q⟩
  ·subst h1;obtain⟨_,_,_,_,ob,_,_,q,_⟩:=hk;exact⟨ob,q⟩
 refine⟨I.ok,I.os,I.bare,⟨I.base.keep,I.base.slot,fun b q h1 h2 h3=>fT (I.base.free b q h1 h2 h3),I.base.there,fun b xs q=>fS (I.base.tups b xs q) (fun _ z=>nomatch z) (fun _ z=>nomatch z),
  fun b q1 v q=>fS (I.base.frzs b q1 v q) (fun _ z=>nomatch z) (fun _ z=>nomatch z),fun b ps q=>?_⟩,I.loc,I.cell,fT I.free,fun x c q=>fT (I.freeC x c q),fun p hp=>?_,fun b v q=>?_,I.len⟩
 ·obtain⟨m,this⟩:=I.base.tbls b ps q
  exact⟨m,fS this (fun _ z=>nomatch z) (fun _ z=>nomatch z)⟩
 ·obtain⟨h1,h2,h3⟩:=I.pin p hp
  exact⟨h1,fT h2,h3⟩
 ·have st:∀{c:Addr}{v:HO},ObjOk X.prog X.w H s.heap c v→ObjOk X.prog X.w (L3.refA s.heap P H) s.heap c v:=fun {c v} k=>k.stay (fun _ _ _ q=>q)
   (fun c' q=>fS q (fun _ z=>nomatch z) (fun _ z=>nomatch z)) fun c' xs q=>fS q (fun _ z=>nomatch z) (fun _ z=>nomatch z)
  cases e:H b with
  |none=>rw[fT e] at q;cases q
  |some o=>
   rcases qR (P:=P) (h:=s.heap) e with z | ⟨hu,hp,z⟩
   ·rw[z] at q;cases q;exact st (I.hok b _ e)
   ·rw[z] at q
    cases q
    obtain⟨ob,Jg⟩:=obj b o e hu
    rw[Jg]
    exact⟨Jg,st (I.hok b o e)⟩
def unA(P:Addr→Prop)[DecidablePred P](H:Hp):Hp:=fun b=>if P b then(match H b with | some (.frz _ u)=>some u | x=>x) else H b
theorem Inv.unA(I:Inv X pins σ H s)(hP:∀b,P b→∀o u,X.H₀ b≠some (.frz o u))(hQ:∀b,P b→∀o u,H b=some (.frz o u)→(∃k,u= .dT k)∨∃k,u= .dK k):Inv X pins σ (L3.unA P H) s:=by
 have non:∀b,H b=none→L3.unA P H b=none:=fun b e=>by unfold L3.unA;rw[e];split<;>rfl
 have keep:∀b o,H b=some o→(∀q u,o≠ .frz q u)→L3.unA P H b=some o:=fun b o e n=>by
  unfold L3.unA;split
  ·rw[e];cases o<;>first | rfl | exact absurd rfl (n _ _)
  ·exact e
 refine⟨I.ok,I.os,I.bare,⟨I.base.keep,I.base.slot,fun b q h1 h2 h3=>non b (I.base.free b q h1 h2 h3),I.base.there,fun b xs q=>keep b _ (I.base.tups b xs q) (fun _ _ z=>nomatch z),
  fun b q1 v q=>?_,fun b ps q=>?_⟩,I.loc,I.cell,non _ I.free,fun x c q=>non _ (I.freeC x c q),fun p hp=>?_,fun b v q=>?_,I.len⟩
 ·have:=I.base.frzs b q1 v q
  unfold L3.unA
  rw[if_neg (fun hp=>hP b hp q1 v q)]
  exact this
 ·obtain⟨m,this⟩:=I.base.tbls b ps q
  exact⟨m,keep b _ this (fun _ _ z=>nomatch z)⟩
 ·obtain⟨h1,h2,h3⟩:=I.pin p hp
  exact⟨h1,non _ h2,h3⟩
 ·have st:∀{c:Addr}{v:HO},ObjOk X.prog X.w H s.heap c v→ObjOk X.prog X.w (L3.unA P H) s.heap c v:=fun {c v} k=>k.stay (fun _ _ _ q=>q)
   (fun c' q=>keep c' _ q (fun _ _ z=>nomatch z)) fun c' xs q=>keep c' _ q (fun _ _ z=>nomatch z)
  cases e:H b with
  |none=>rw[non b e] at q;cases q
  |some o=>
   have ko:=I.hok b o e
   by_cases hf:∃ob u,o= .frz ob u
   ·obtain⟨ob,u,rfl⟩:=hf
    unfold L3.unA at q
    split at q
    ·rw[e] at q
     cases q
     obtain⟨_,k2⟩:=ko
     exact st k2
    ·rw[e] at q;cases q;exact st ko
   ·rw[keep b o e (fun q u z=>hf ⟨q,u,z⟩)] at q
    cases q
    exact st ko
end
mutual
def Fl:D→Bool
 | .non=>true
 | .bl _=>true
 | .int _=>true
 | .str _=>true
 | .tup ds=>xK ds
 | .raw _=>false
 | .exc _=>false
 | .scr _=>false
 | .lst _=>false
 | .dct _ _=>false
 | .dci _ _=>false
def xK:List D→Bool
 |[]=>true
 |d::ds=>Fl d&&xK ds
end
def OwnAt(σ:St)(ρ:aX)(b:Addr):Prop:=∃(i:Nat) (c:C),ρ[i]? =some (some (Sl.ow c))∧σ[i]? =some (some (V.ref b))
section
variable{K:W.Frag}{F H F' H':Hp}{σ:St}{ρ:aX}{h:Heap}{b:Addr}
theorem OwnAt.obj(S:StE K F H σ ρ)(p:OwnAt σ ρ b):F b=none∧∃o,H b=some o∧((∃x,o= .lst x)∨(∃x,o= .dT x)∨∃x,o= .dK x):=by
 obtain⟨i,c,h1,h2⟩:=p
 obtain⟨v,h3,a,o,rfl,h4,h5,h6⟩:=S.den i _ h1
 rw[h3] at h2
 cases h2
 refine⟨h5,o,h4,?_⟩
 cases c with
 |lst ds=>obtain⟨vs,rfl,_⟩:=h6;exact .inl ⟨_,rfl⟩
 |dct ks ds=>obtain⟨vs,rfl,_⟩:=h6;exact .inr (.inl ⟨_,rfl⟩)
 |dci ks ds=>obtain⟨vs,rfl,_⟩:=h6;exact .inr (.inr ⟨_,rfl⟩)
open Classical in
noncomputable def fA(σ:St)(ρ:aX)(H1 F:Hp):Hp:=fun b=>if OwnAt σ ρ b then H1 b else F b
open Classical in
theorem xJ(S:StE K F H σ ρ){H1:Hp}:Same F (fA σ ρ H1 F):=fun b u e=>by
 unfold fA
 rw[if_neg (fun p=>by rw[(OwnAt.obj S p).1] at e;cases e)]
 exact e
open Classical in
theorem Ga(S:StE K F H σ ρ):StE K (fA σ ρ (refA h (OwnAt σ ρ) H) F) (refA h (OwnAt σ ρ) H) σ (Fo ρ):=by
 refine⟨fun b u e=>?_,fun j sl e=>?_⟩
 ·unfold fA at e
  split at e
  ·exact e
  ·rename_i hp
   unfold refA
   rw[if_neg hp]
   exact S.fh b u e
 ·unfold Fo at e
  rw[List.getElem?_map] at e
  cases q:ρ[j]? with
  |none=>rw[q] at e;cases e
  |some x=>
   rw[q] at e
   cases x with
   |none=>cases e
   |some y=>
    cases y with
    |fz d=>
     cases e
     obtain⟨v,h1,h2⟩:=S.den j _ q
     exact⟨v,h1,Den.mono (xJ S) h2⟩
    |ow c=>
     cases e
     obtain⟨v,h1,a,o,rfl,h4,h5,h6⟩:=S.den j _ q
     refine⟨_,h1,DenC.den (ob:=(h.get? a).getD {cls:= .none,data:= .fields #[]}) h6 (xJ S) ?_⟩
     have hp:OwnAt σ ρ a:=⟨j,c,q,h1⟩
     unfold fA refA
     rw[if_pos hp,if_pos hp,h4]
     rfl
open Classical in
theorem AU(S:StE K F H σ ρ)(E:Ext (fA σ ρ (refA h (OwnAt σ ρ) H) F) (refA h (OwnAt σ ρ) H) F' H'):
 Ext F H (fun b=>if OwnAt σ ρ b then none else F' b) (unA (OwnAt σ ρ) H')∧∀b,OwnAt σ ρ b→∀o u,H' b=some (.frz o u)→(∃k,u= .dT k)∨∃k,u= .dK k:=by
 have MU:∀b,OwnAt σ ρ b→∃o,H b=some o∧H' b=some (mw ((h.get? b).getD {cls:= .none,data:= .fields #[]}) o)∧((∃x,o= .lst x)∨(∃x,o= .dT x)∨∃x,o= .dK x):=fun b hp=>by
  obtain⟨_,o,h1,h2⟩:=OwnAt.obj S hp
  refine⟨o,h1,E.hh b _ ?_,h2⟩
  unfold refA
  rw[if_pos hp,h1]
  rfl
 refine⟨⟨fun b o e=>?_,fun b u e=>?_,fun b u e=>?_,fun b hb=>?_⟩,fun b hp o u e=>?_⟩
 ·unfold unA
  by_cases hp:OwnAt σ ρ b
  ·obtain⟨o',h1,h2,h3⟩:=MU b hp
   rw[e] at h1
   cases h1
   rw[if_pos hp,h2]
   rcases h3 with⟨x,rfl⟩ | ⟨x,rfl⟩ | ⟨x,rfl⟩<;>rfl
  ·rw[if_neg hp]
   refine E.hh b o ?_
   unfold refA
   rw[if_neg hp]
   exact e
 ·have hp:¬OwnAt σ ρ b:=fun p=>by rw[(OwnAt.obj S p).1] at e;cases e
  show (if OwnAt σ ρ b then none else F' b)=_
  rw[if_neg hp]
  refine E.ff b u ?_
  unfold fA
  rw[if_neg hp]
  exact e
 ·have e:(if OwnAt σ ρ b then none else F' b)=some u:=e
  split at e
  ·cases e
  ·rename_i hp
   unfold unA
   rw[if_neg hp]
   exact E.fh b u e
 ·show (if OwnAt σ ρ b then none else F' b)=F b∨_
  by_cases hp:OwnAt σ ρ b
  ·rw[if_pos hp]
   exact .inl (OwnAt.obj S hp).1.symm
  ·rw[if_neg hp]
   have e1:refA h (OwnAt σ ρ) H b=H b:=by unfold refA;rw[if_neg hp]
   have e2:fA σ ρ (refA h (OwnAt σ ρ) H) F b=F b:=by unfold fA;rw[if_neg hp]
   rcases E.new b (by rw[e1];exact hb) with q | q
   ·exact .inl (q.trans e2)
   ·rw[e1] at q;exact .inr q
 ·obtain⟨o',h1,h2,h3⟩:=MU b hp
  rw[e] at h2
  rcases h3 with⟨x,rfl⟩ | ⟨x,rfl⟩ | ⟨x,rfl⟩
  ·cases h2
  ·cases h2;exact .inl ⟨_,rfl⟩
  ·cases h2;exact .inr ⟨_,rfl⟩
open Classical in
mutual
theorem AR(S:StE K F H σ ρ)(E:Ext (fA σ ρ (refA h (OwnAt σ ρ) H) F) (refA h (OwnAt σ ρ) H) F' H'):∀{d:D}{v:V},Fl d=true→Den K F' d v→Den K (fun b=>if OwnAt σ ρ b then none else F' b) d v
 | .non,_,_,q=>q
 | .bl _,_,_,q=>q
 | .int _,_,_,q=>q
 | .str _,_,_,q=>q
 | .tup ds,_,f,⟨a,vs,h1,h2,h3,h4⟩=>by
   refine⟨a,vs,h1,?_,p9 S E ?_ h3,h4⟩
   ·show (if OwnAt σ ρ a then none else F' a)=_
    rw[if_neg,h2]
    intro hp
    obtain⟨_,o,k1,k2⟩:=OwnAt.obj S hp
    have k3:fA σ ρ (refA h (OwnAt σ ρ) H) F a=some (mw ((h.get? a).getD {cls:= .none,data:= .fields #[]}) o):=by
     unfold fA refA
     rw[if_pos hp,if_pos hp,k1]
     rfl
    have k4:=E.ff a _ k3
    rw[h2] at k4
    rcases k2 with⟨x,rfl⟩ | ⟨x,rfl⟩ | ⟨x,rfl⟩<;>cases k4
   ·exact f
 | .raw _,_,f,_=>by cases f
 | .exc _,_,f,_=>by cases f
 | .scr _,_,f,_=>by cases f
 | .lst _,_,f,_=>by cases f
 | .dct _ _,_,f,_=>by cases f
 | .dci _ _,_,f,_=>by cases f
theorem p9(S:StE K F H σ ρ)(E:Ext (fA σ ρ (refA h (OwnAt σ ρ) H) F) (refA h (OwnAt σ ρ) H) F' H'):∀{ds:List D}{vs:List V},xK ds=true→DenL K F' ds vs→DenL K (fun b=>if OwnAt σ ρ b then none else F' b) ds vs
 |[],_,_,q=>q
 |d::ds,_,f,⟨v,r,h1,h2,h3⟩=>by
  unfold xK at f
  rw[Bool.and_eq_true] at f
  exact⟨v,r,h1,AR S E f.1 h2,p9 S E f.2 h3⟩
end
end
section
variable{X:Cx}{Xw:Nat→Hp→Prop}{e:Expr}{δ:DE}{τ:DT}
theorem zE{pins:List (Addr×Obj)}{s:Shared}{F H:Hp}{σ:St}{ρ:aX}(I:Inv X pins σ H s)(S:StE X.K F H σ ρ)(b:Addr)(p:OwnAt σ ρ b)(o:Obj)(u:HO):X.H₀ b≠some (.frz o u):=fun z=>by
 obtain⟨_,o',k1,k2⟩:=OwnAt.obj S p
 have:=I.base.frzs b o u z
 rw[k1] at this
 rcases k2 with⟨x,rfl⟩ | ⟨x,rfl⟩ | ⟨x,rfl⟩<;>cases this
theorem wx{α:Type}(m:M α):noex m=M.stuck∨∃a,m=M.ret a∧noex m=M.ret a:=by
 rcases m.cs with h | ⟨n,h⟩ | ⟨a,h⟩
 ·subst h;exact .inl rfl
 ·subst h;exact .inl rfl
 ·subst h;exact .inr ⟨a,rfl,rfl⟩
theorem B0(h:o6 X Xw e τ):o6 X Xw e (fun ρ=>noex (τ (Fo ρ))):=fun pins s σ H Q I ⟨F,ρ,S,w⟩=>by
 classical
 rcases wx (τ (Fo ρ)) with q | ⟨b,q,q2⟩
 ·have w:WPB Xw F H (noex (τ (Fo ρ))) Q:=w
  rw[q] at w
  exact w.elim
 ·have w:WPB Xw F H (noex (τ (Fo ρ))) Q:=w
  rw[q2] at w
  refine bS (h pins s σ _ (fun b' H'=>Q b' (unA (OwnAt σ ρ) H')∧∀c,OwnAt σ ρ c→∀o u,H' c=some (.frz o u)→(∃k,u= .dT k)∨∃k,u= .dK k) (Inv.refA (P:=OwnAt σ ρ) I) ⟨_,_,Ga (h:=s.heap) S,?_⟩) fun b' s' ⟨H',I',q1,q3⟩=>⟨_,Inv.unA I' (zE I S) q3,q1⟩
  rw[q]
  intro H' F' E
  obtain⟨E1,q3⟩:=AU S E
  exact⟨w _ _ E1,q3⟩
end
abbrev DF:=aX→M C
def WPF(K:W.Frag)(Xw:Nat→Hp→Prop)(F H:Hp)(m:M C)(Q:VK):Prop:=
 match m with
 |none=>False
 |some (.ok c)=>∀a o H' F',Ext F H F' H'→H' a=some o→F' a=none→H a=none→DenC K F' c o→Q (.ref a) H'
 |some (.ex n)=>∀F' H',Ext F H F' H'→Xw n H'
def Pu(K:W.Frag)(Xw:Nat→Hp→Prop)(δ:DF):TE:=fun σ H Q=>∃F ρ,StE K F H σ ρ∧WPF K Xw F H (δ ρ) Q
def MQ(X:Cx)(Xw:Nat→Hp→Prop)(e:Expr)(δ:DF):Prop:=PE X e (Pu X.K Xw δ)
def Cz(i:Nat)(δ:DF):DS:=fun ρ=>δ ρ>>=fun c=>M.ret (.nx (ρ.set i (some (.ow c))))
theorem StOk.setFresh{K:W.Frag}{F₀ H₀ F H F' H':Hp}{σ:St}{ρ:aX}(s:StOk K F₀ H₀ F H σ ρ){i:Nat}{a:Addr}{o:HO}{c₀:C}(E:Ext F H F' H')(ho:H' a=some o)(nF:F' a=none)(n:H a=none)(h:DenC K F' c₀ o):
 StOk K F₀ H₀ F' H' (σ.set i (some (.ref a))) (ρ.set i (some (.ow c₀))):=by
 have hle:=s.len
 have get:∀(j:Nat) (sl:Sl),(ρ.set i (some (.ow c₀)))[j]? =some (some sl)→(j=i∧i<ρ.length∧sl= .ow c₀)∨(j≠i∧ρ[j]? =some (some sl)):=fun j sl e=>by
  by_cases hj:j=i
  ·subst hj
   have hi:j<ρ.length:=by
    have:=(List.getElem?_eq_some_iff.mp e).1
    simpa using this
   rw[List.getElem?_set_self hi] at e
   cases e
   exact .inl ⟨rfl,hi,rfl⟩
  ·rw[List.getElem?_set_ne (Ne.symm hj)] at e
   exact .inr ⟨hj,e⟩
 have old:∀(j:Nat) (c:C) (b:Addr),ρ[j]? =some (some (.ow c))→σ[j]? =some (some (.ref b))→b≠a:=fun j c b e e' z=>by
  obtain⟨u,h1,b',o,h2,h3,_⟩:=s.st.den j _ e
  rw[h1] at e'
  cases e'
  cases h2
  rw[z,n] at h3
  cases h3
 refine⟨s.ext.trans E,⟨E.fh,fun j sl e=>?_⟩,by simp[hle],fun j c b e e'=>?_,fun j k c c' b e1 e2 e3 e4=>?_⟩
 ·rcases get j sl e with⟨rfl,hi,rfl⟩ | ⟨hj,e⟩
  ·exact⟨.ref a,by rw[List.getElem?_set_self (by omega)],a,_,rfl,ho,nF,h⟩
  ·obtain⟨u,h1,h2⟩:=s.st.den j sl e
   exact⟨u,by rw[List.getElem?_set_ne (Ne.symm hj)];exact h1,h2.ext E⟩
 ·rcases get j _ e with⟨rfl,hi,_⟩ | ⟨hj,e⟩
  ·rw[List.getElem?_set_self (by omega)] at e'
   cases e'
   exact Same.free s.ext.hh n
  ·rw[List.getElem?_set_ne (Ne.symm hj)] at e'
   exact s.own j c b e e'
 ·rcases get j _ e1 with⟨rfl,hi,_⟩ | ⟨hj,e1⟩
  ·rw[List.getElem?_set_self (by omega)] at e3
   cases e3
   rcases get k _ e2 with⟨rfl,_,_⟩ | ⟨hk,e2⟩
   ·rfl
   ·rw[List.getElem?_set_ne (Ne.symm hk)] at e4
    exact absurd rfl (old k c' a e2 e4)
  ·rcases get k _ e2 with⟨LJ,hi,_⟩ | ⟨hk,e2⟩
   ·rw[LJ,List.getElem?_set_self (by omega)] at e4
    cases e4
    rw[List.getElem?_set_ne (Ne.symm hj)] at e3
    exact absurd rfl (old j c a (by assumption) e3)
   ·rw[List.getElem?_set_ne (Ne.symm hj)] at e3
    rw[List.getElem?_set_ne (Ne.symm hk)] at e4
    exact s.sep j k c c' b e1 e2 e3 e4
theorem WPF.mono{K:W.Frag}{Xw:Nat→Hp→Prop}{F H:Hp}{m:M C}{Q Q':VK}(h:WPF K Xw F H m Q)(k:∀v H',Q v H'→Q' v H'):WPF K Xw F H m Q':=by
 match m,h with
 |none,h=>exact h
 |some (.ok d),h=>exact fun a o H' F' e h1 h2 h3 h4=>k _ _ (h a o H' F' e h1 h2 h3 h4)
 |some (.ex n),h=>exact h
theorem WPF.ext{K:W.Frag}{Xw:Nat→Hp→Prop}{F H F1 H1:Hp}{m:M C}{Q:VK}(e:Ext F H F1 H1)(h:WPF K Xw F H m Q):WPF K Xw F1 H1 m Q:=by
 match m,h with
 |none,h=>exact h
 |some (.ok d),h=>exact fun a o H' F' e' h1 h2 h3 h4=>h a o H' F' (e.trans e') h1 h2 (Same.free e.hh h3) h4
 |some (.ex n),h=>exact fun F2 H2 e2=>h F2 H2 (e.trans e2)
theorem WPF.bind{K:W.Frag}{Xw:Nat→Hp→Prop}{F H:Hp}{m:M D}{k:D→M C}{Q:VK}(h:WPF K Xw F H (m>>=k) Q):WP K Xw F H m fun v H1=>∃F1 d,Ext F H F1 H1∧Den K F1 d v∧WPF K Xw F1 H1 (k d) Q:=by
 match m,h with
 |none,h=>exact h
 |some (.ok d),h=>exact fun v H2 F2 e2 q=>⟨F2,d,e2,q,WPF.ext e2 (show WPF K Xw F H (k d) Q from h)⟩
 |some (.ex n),h=>exact h
section
variable{X:Cx}{Xw:Nat→Hp→Prop}{e k v a b:Expr}{es:List Expr}{δ δ':DF}{δk δv δa δb:DE}{δs:DA}{pos pos' p:Pos}{x:Str}{i:Nat}
theorem Cc(hN:X.N.Nodup)(hi:X.N[i]? =some x)(hx:Loc X.env.scope x)(he:MQ X Xw e δ)(hf:X.fn x=true∨X.env.scope.names.lookup x=some .local:=by first | exact .inl rfl | exact .inr rfl)
 (hs:swapsWithSole [.Name x pos'] e pos.line X.env=pure false:=by rfl):
 iL X Xw (.Assign [.Name x pos'] e pos) (Cz i δ):=fun F₀ H₀=>PS.weak (sH he (bx hN hi hx hf) hs) fun D σ H ⟨F,ρ,s,w⟩=>by
 refine⟨F,ρ,s.st,?_⟩
 unfold Cz at w
 match δ ρ,w with
 |none,w=>exact w
 |some (.ok c),w=>exact fun a o H' F' E h1 h2 h3 h4=>w _ F' H' (s.setFresh E h1 h2 h3 h4)
 |some (.ex n),w=>exact fun F' H' e'=>w F' H' (s.ext.trans e')
theorem IA{pins:List (Addr×Obj)}{σ:St}{H H':Hp}{s:Shared}{a:Addr}{y v:V}{u r:Value}{A:Around}{E:Value→Shared→Prop}{Q:Unit→Shared→Prop}(hu:A.units+1<cLine)(I:Inv X pins σ H s)(g:DPut H a y v H')(ry:RelV y u)(rv:RelV v r)(h:∀s',Inv X pins σ H' s'→Q () s'):
 wpAny (model X.prog X.w) A (dictSet a u r) Q E s:=by
 rcases g with⟨aw,k,e,ey,l,eH⟩ | ⟨aw,k,b,e,ey,eb,l,eH⟩
 ·subst ey eH
  obtain⟨z,hd,vs,rel,dd⟩:=Ff I.hok e
  have hz:vs.length≤sizeLine:=by rw[←rel.length];exact z
  have hl:(putK aw k v).length≤sizeLine:=by have:=eg aw k v;omega
  refine wpAny_dictSet_pairs (hsz:=hz) (ql ry) dd fun h' AF hs=>h _ ?_
  have he:∃q,h'.get? a=some q:=let ⟨q,_,_,hq,_⟩:=AF;⟨q,hq⟩
  exact jj I (by rw[e];exact True.intro) hs he (AJ hl hd (rel.put k rv) AF)
 ·subst ey eH
  cases (show u=Value.ref b from ry)
  obtain⟨z,hd,xs,rel,dd⟩:=AK I.hok e
  have hz:xs.length≤sizeLine:=by rw[←Paired.length rel];exact z
  have hl:(putK aw k v).length≤sizeLine:=by have:=eg aw k v;omega
  refine wpAny_dictSet_heap (knd:=tupleKind (bj X.prog X.w)) (hsz:=hz) (by exact(show A.units<cLine by omega)) (kE I.hok eb) dd fun h' AF hs=>h _ ?_
  obtain⟨q,es,ep,hq,h2,h3,h4,_,h5⟩:=AF
  refine jj I (by rw[e];exact True.intro) hs ⟨q,hq⟩ ⟨hl,hd,_,(rel.put k eb rv).keeps fun c ys ec=>?_,q,es,ep,hq,h2,h3,h4,h5⟩
  rw[av (Bv ec e (fun z=>nomatch z))]
  exact ec
end
section
variable{X:Cx}{Xw:Nat→Hp→Prop}{e k v a b:Expr}{es:List Expr}{δk δv δa δb:DE}{δs:DA}{pos pos' p:Pos}{x:Str}{i:Nat}
theorem AI{o0:HO}{put:Hp→Addr→V→V→Hp→Prop}(hu:X.A.units+1<cLine)(h0:∀(H:Hp) (h:Heap),sysModules<h.objs.size→ObjOk X.prog X.w H (h.push {cls:= .type "dict",data:= .dict #[]}) h.objs.size o0){tk tv:TE}(hk:PE X k tk)(hv:PE X v tv):
 PE X (.Dict [some k] [v] pos) (fun σ H Q=>∀p,H p=none→tk σ (upd H p o0) fun y H1=>tv σ H1 fun z H2=>∃H3,DPut H2 p y z H3∧Q (.ref p) H3):=by
 intro pins s σ H Q I q
 have hn:=I.hok.fresh (Nat.le_refl s.heap.objs.size)
 have I1:=I.laid (a:=s.heap.objs.size) (o:=o0) (h':=s.heap.push {cls:= .type "dict",data:= .dict #[]}) (t':=s.toks) (fun _ _ q=>Heap.get?_push_of_some _ q) (Nat.le_refl _) (h0 _ s.heap I.big)
 refine wpAny_Dict_any rfl rfl (by simp) (by simp) (bS (B8 hk hv EA pins _ σ _ (fun ps H2=>∃y z H3,ps=[(y,z)]∧DPut H2 s.heap.objs.size y z H3∧Q (.ref s.heap.objs.size) H3) I1 ?_) fun ws s2 ⟨ps,H2,I2,rel,y,z,H3,ep,g,q2⟩=>?_)
 ·refine ?_
  have:=q _ hn
  show tk σ _ fun y H1=>tv σ H1 fun z H2=>∃y' z' H3,[(y,z)]=[(y',z')]∧DPut H2 s.heap.objs.size y' z' H3∧Q (.ref s.heap.objs.size) H3
  have e:(fun (y:V) (H1:Hp)=>tv σ H1 fun z H2=>∃y' z' H3,[(y,z)]=[(y',z')]∧DPut H2 s.heap.objs.size y' z' H3∧Q (.ref s.heap.objs.size) H3)=(fun y H1=>tv σ H1 fun z H2=>∃H3,DPut H2 s.heap.objs.size y z H3∧Q (.ref s.heap.objs.size) H3):=by
   funext y H1
   congr 1
   funext z H2
   refine propext ⟨fun ⟨y',z',H3,ee,r⟩=>?_,fun⟨H3,r⟩=>⟨y,z,H3,rfl,r⟩⟩
   cases ee
   exact⟨H3,r⟩
  rw[e]
  exact this
 ·subst ep
  cases rel with
  | @cons a b as bs h t=>
    cases t
    obtain⟨r1,r2⟩:=h
    unfold storeAll
    rw[List.forIn_cons]
    refine wpAny_bind (wpAny_bind (IA hu I2 g r1 r2 fun s3 I3=>?_))
    refine wpAny_pure ?_
    show wpAny _ _ (forIn ([]:List (Value×Value)) PUnit.unit _) _ _ _
    rw[List.forIn_nil]
    exact wpAny_pure ⟨V.ref s.heap.objs.size,_,I3,rfl,q2⟩
def p6(k v:D):M C:=match jz k with
 |some kk=>M.ret (.dct [kk] [v])
 |none=>M.stuck
theorem zI(hu:X.A.units+64<cLine)(hk:PD X Xw k δk)(hv:PD X Xw v δv):MQ X Xw (.Dict [some k] [v] pos) (fun ρ=>δk ρ>>=fun x=>δv ρ>>=fun y=>p6 x y):=
 PE.weak (AI (o0:= .dT []) (put:=DPut) (by omega) (fun H h hb=>ua h hb) hk hv) fun σ H Q ⟨F,ρ,s,w⟩ q hq=>by
  have e0:=Ext.free (o:= .dT []) s.fh hq
  refine⟨F,ρ,s.ext e0,?_⟩
  have w:WPF X.K Xw F H (δk ρ>>=fun x=>δv ρ>>=fun y=>p6 x y) Q:=w
  match vL:δk ρ,w with
  |none,w=>exact w
  |some (.ex n),w=>exact fun F' H' e'=>w F' H' (e0.trans e')
  |some (.ok kd),w=>
   intro y H1 F1 e1 q1
   refine⟨F1,ρ,(s.ext e0).ext e1,?_⟩
   have w:WPF X.K Xw F H (δv ρ>>=fun y=>p6 kd y) Q:=w
   match L0:δv ρ,w with
   |none,w=>exact w
   |some (.ex n),w=>exact fun F' H' e'=>w F' H' (e0.trans (e1.trans e'))
   |some (.ok vd),w=>
    intro z H2 F2 e2 q2
    have w3:WPF X.K Xw F H (p6 kd vd) Q:=w
    clear w
    unfold p6 at w3
    cases DI:jz kd with
    |none=>rw[DI] at w3;exact w3.elim
    |some kk=>
     rw[DI] at w3
     have E:=e1.trans e2
     have LS:H2 q=some (.dT []):=E.hh _ _ aF
     have M7:F2 q=none:=by
      have:=E.old (a:=q) (o:= .dT []) aF (fun _ z=>nomatch z)
      rw[this]
      exact Same.free s.fh hq
     unfold jz at DI
     split at DI
     ·rename_i es
      obtain⟨b,ws,rfl,k2,k3,_⟩:=Den.mono e2.ff q1
      have e5:=jy DI k3
      subst e5
      refine⟨_,DPut.t (k:=kk) LS (e2.fh _ _ k2) (by rw[sizeLine_eq];decide),?_⟩
      refine w3 q (.dT (putK [] kk z)) _ F2 ⟨fun c u hc=>?_,(e0.trans E).ff,fun c u hc=>?_,(e0.trans E).new⟩ aF M7 hq ⟨[z],rfl, .cons q2 .nil,rfl,show 1≤lim by decide⟩
      ·rw[av (fun zz=>by rw[zz,hq] at hc;cases hc)]
       exact(e0.trans E).hh c u hc
      ·rw[av (fun zz=>by rw[zz,M7] at hc;cases hc)]
       exact e2.fh c u hc
     ·cases DI
theorem xy{K:W.Frag}{F H:Hp}{d k:D}{x y:V}{o:Option D}(s:Same F H)(hd:Den K F d x)(hk:Den K F k y)(e:C8 d k=some o):
 ∃a ov,x= .ref a∧o9 H a y ov∧ov.isSome=o.isSome∧∀d',o=some d'→∃v,ov=some v∧Den K F d' v:=by
 obtain⟨a,ov,h1,h2,h3,h4⟩:=xA (σ:=[some x]) (ρ:=[some (.fz d)]) (i:=0) (H:=H) ⟨s,fun i sl q=>by
  match i,q with
  |0,q=>cases q;exact⟨x,rfl,hd⟩
  |i+1,q=>simp at q⟩ rfl hk e
 cases h1
 exact⟨a,ov,rfl,h2,h3,h4⟩
def pw(neg:Bool)(k d:D):M D:=match C8 d k with
 |some o=>M.ret (.bl (if neg then !o.isSome else o.isSome))
 |none=>M.stuck
def JY(neg:Bool):R2:=fun y x H Q=>∃a o,x= .ref a∧o9 H a y o∧Q (.bl (if neg then !o.isSome else o.isSome)) H
theorem zC(hu:X.A.units+64<cLine):OpR X (compareOp .NotIn) (JY true):=fun pins s σ H y x v u Q I ry rx ⟨a,o,ex,g,q⟩=>by
 subst ex
 obtain rfl:u=Value.ref a:=rx
 exact Dp (by omega) I g ry fun s' I'=>⟨.bl (!o.isSome),_,I',rfl,q⟩
theorem Ed{K:W.Frag}{neg:Bool}:vO K (JY neg) (pw neg):=fun Xw F H y x dk dd Q s hk hd w=>by
 unfold pw at w
 cases he:C8 dd dk with
 |none=>rw[he] at w;exact w.elim
 |some o=>
  rw[he] at w
  obtain⟨a,ov,h1,h2,h3,_⟩:=xy s hd hk he
  refine⟨a,ov,h1,h2,?_⟩
  rw[h3]
  exact WP.now w s rfl
theorem qO(hu:X.A.units+64<cLine)(ha:PD X Xw a δa)(hb:PD X Xw b δb)(hm:behindInMarks .NotIn b=false:=by rfl):o6 X Xw (.Compare a [.NotIn] [b] pos) (cY (d2 (pw true) δa δb)):=gp (zC hu) Ed ha hb hm
def v9(d k:D):M D:=match C8 d k with
 |some (some v)=>M.ret v
 |_=>M.stuck
theorem BS(hu:X.A.units+64<cLine)(ha:PD X Xw a δa)(hb:PD X Xw b δb)(hs:FO b:=by intro _ _;rfl):PD X Xw (.Subscript a b pos) (d2 v9 δa δb):=
 PE.weak (Eu (by omega) ha hb hs) fun σ H Q ⟨F,ρ,s,w⟩=>by
  refine⟨F,ρ,s,WP.mono (WP.bind w) fun x H1 ⟨F1,d,e1,q1,w1⟩=>?_⟩
  refine⟨F1,ρ,s.ext e1,WP.mono (WP.bind w1) fun y H2 ⟨F2,k,e2,q2,w2⟩=>?_⟩
  unfold v9 at w2
  cases he:C8 d k with
  |none=>rw[he] at w2;exact w2.elim
  |some o=>
   cases o with
   |none=>rw[he] at w2;exact w2.elim
   |some d'=>
    rw[he] at w2
    obtain⟨a,ov,h1,h2,h3,h4⟩:=xy e2.fh (Den.mono e2.ff q1) q2 he
    obtain⟨v,rfl,hd⟩:=h4 d' rfl
    exact⟨a,v,h1,h2,WP.now w2 e2.fh hd⟩
end
section
variable{X:Cx}{pins:List (Addr×Obj)}{σ:St}{H:Hp}{s:Shared}{h':Heap}
theorem Inv.turnedLaid{t':Nat}{ch:List Addr}{a:Addr}{o:HO}(I:Inv X pins σ H s)(k:∀b q,b∉ch→s.heap.get? b=some q→h'.get? b=some q)(hf:∀b∈ch,o_ X pins H b)(hp:s.heap.objs.size≤a)(new:ObjOk X.prog X.w (upd H a o) h' a o):
 Inv X pins σ (upd H a o) {s with heap:=h',toks:=t'}:=by
 have hn:=I.hok.fresh hp
 have FD:∀b u,H b=some u→b∉ch:=fun b u e z=>by rw[(hf b z).1] at e;cases e
 refine I.step (g':=s.gens) (d':=s.drawn) (ch:=ch) (fun b hb=>?_) (fun b q _ _ hc e _=>k b q hc e) (fun b q _ _ hc e _=>⟨q.slots,k b q hc e⟩) (fun b q hc e n=>?_)
  (fun b q hc e=>⟨q,k b q hc e⟩) (fun b xs e=>?_) (fun b q u e=>?_) (fun b ps e=>⟨#[],?_⟩) (fun m hm=>?_) (fun b u e=>?_) I.bare
 ·obtain⟨f0,f1,f2,f3,f4,f5⟩:=hf b hb
  exact⟨f3,f1,f4,f5⟩
 ·rw[av (fun z=>by rw[z] at e;exact absurd (Heap.lt_size e) (Nat.not_lt.mpr hp))];exact n
 ·rw[av (ba e hn)];exact e
 ·rw[av (ba e hn)];exact e
 ·rw[av (ba e hn),e];simp
 ·obtain⟨q,es,ep,ho,r⟩:=hm
  exact⟨q,es,ep,k _ q (fun z=>(hf _ z).2.1 rfl) ho,r⟩
 ·by_cases hb:b=a
  ·subst hb;rw[aF] at e;cases e;exact new
  ·rw[av hb] at e
   refine(I.hok b u e).stay (fun c v hc q=>k c v ?_ q) (fun c q=>by rw[av (ba q hn)];exact q) fun c xs q=>by rw[av (ba q hn)];exact q
   rcases hc with z | z
   ·rw[z];exact FD b u e
   ·exact FD c _ z
theorem Inv.turnedL{t':Nat}{ch:List Addr}(I:Inv X pins σ H s)(k:∀b q,b∉ch→s.heap.get? b=some q→h'.get? b=some q)(hf:∀b∈ch,o_ X pins H b):Inv X pins σ H {s with heap:=h',toks:=t'}:=by
 have FD:∀b u,H b=some u→b∉ch:=fun b u e z=>by rw[(hf b z).1] at e;cases e
 refine I.step (g':=s.gens) (d':=s.drawn) (ch:=ch) (fun b hb=>?_) (fun b q _ _ hc e _=>k b q hc e) (fun b q _ _ hc e _=>⟨q.slots,k b q hc e⟩) (fun b q hc e n=>n)
  (fun b q hc e=>⟨q,k b q hc e⟩) (fun b xs e=>e) (fun b q u e=>e) (fun b ps e=>⟨#[],by rw[e];simp⟩) (fun m hm=>?_) (fun b u e=>?_) I.bare
 ·obtain⟨f0,f1,f2,f3,f4,f5⟩:=hf b hb
  exact⟨f3,f1,f4,f5⟩
 ·obtain⟨q,es,ep,ho,r⟩:=hm
  exact⟨q,es,ep,k _ q (fun z=>(hf _ z).2.1 rfl) ho,r⟩
 ·refine(I.hok b u e).stay (fun c v hc q=>k c v ?_ q) (fun c q=>q) fun c xs q=>q
  rcases hc with z | z
  ·rw[z];exact FD b u e
  ·exact FD c _ z
end
def MO(K:W.Frag)(a:Addr):It:=
 ⟨fun i H=>∃xs x,SqL K H a xs∧xs[i]? =some x,fun i H x H'=>∃p,x= .ref p∧H p=none∧∃v,(∀xs,SqL K H a xs→xs[i]? =some v)∧H'=upd H p (.tup [.int (i:Int),v]),fun i H=>∃xs,SqL K H a xs∧xs.length≤i⟩
theorem zV{P:Program}{w:World}{K:W.Frag}{es:List Expr}{x1}{tp:Pos}(l e it:Addr)(Nk:e≠it):
 Turn P w K (.Tuple es x1 tp) (MO K l) [e,it] e (fun i h=>∃old,IsEnum h e it (i:Int) old∧h.IsListIter it l i) where
 mem:=by simp
 obj:=fun i h ⟨old,CM,xf⟩ b hb=>by
  rcases List.mem_cons.mp hb with z | z
  ·subst z;exact⟨_,CM,fun v z=>nomatch z⟩
  ·have z:b=it:=by simpa using z
   subst z
   obtain⟨o,e1,c,d⟩:=xf
   exact⟨o,e1,fun v z=>by rw[d] at z;cases z⟩
 keep:=fun i h h' ⟨old,CM,xf⟩ k=>⟨old,k e (by simp) _ CM,xf.at fun o q=>k it (by simp) o q⟩
 item:=by
  intro X hP hw hK hc i pins s σ H E I hf st hg
  subst hP hw hK
  obtain⟨old,CM,xf⟩:=st
  obtain⟨xs,x,hq,hx⟩:=hg
  obtain⟨aG,rv,p,hz⟩:=I.list hq
  obtain⟨u,hu,ru⟩:=rv.get hx
  refine wpAny_pyNext_enum_item CM xf p.isList (x:=u) (by simpa using hu) Nk fun h1 k1 k2 k3 k4 k5=>?_
  refine⟨_,rfl,wpAny_letOwnedTupleGo_enum k1 fun h2 m1 m2=>?_⟩
  have gN:s.heap.objs.size≠e:=Nat.ne_of_gt (Heap.lt_size CM)
  have MI:h2.get? s.heap.objs.size=some {cls:= .type "tuple",data:= .seq #[.int i s.toks,u]}:=(m2.2 _ gN).trans k3
  have keep:∀b q,b∉[e,it]→s.heap.get? b=some q→h2.get? b=some q:=fun b q hb e1=>by
   have Kw:b≠e:=fun z=>hb (by simp[z])
   have Gh:b≠it:=fun z=>hb (by simp[z])
   exact(m2.2 b Kw).trans (k5 b q Kw Gh e1)
  have I2:Inv X pins σ (upd H s.heap.objs.size (.tup [.int (i:Int),x])) {s with heap:=h2,toks:=s.toks+1}:=by
   refine Inv.turnedLaid (s:=s) I keep hf (Nat.le_refl _) ⟨?_,[.int i s.toks,u], .cons ⟨_,rfl⟩ (.cons ru .nil),_,MI,rfl,_,rfl⟩
   rw[sizeLine_eq];show 2≤_;decide
  refine⟨.ref s.heap.objs.size,_,I2,rfl,⟨_,rfl,I.hok.fresh (Nat.le_refl _),x,fun ys hy=>by rw[I.list_inj hy hq];exact hx,rfl⟩,⟨u,?_,?_⟩,fun b hb=>?_⟩
  ·have:((i+1:Nat):Int)=(i:Int)+1:=by push_cast;rfl
   rw[this];exact m1
  ·exact k2.at fun o q=>(m2.2 it (Ne.symm Nk)).trans q
  ·rw[av (fun z=>by
    rcases List.mem_cons.mp hb with y | y
    ·exact absurd (Heap.lt_size CM) (by rw[←y,z];exact Nat.lt_irrefl _)
    ·have y:b=it:=by simpa using y
     obtain⟨o,q1,_⟩:=id xf
     exact absurd (Heap.lt_size q1) (by rw[←y,z];exact Nat.lt_irrefl _))]
   exact(hf b hb).1
 done:=by
  intro X hP hw hK hc i pins s σ H E I hf st hg
  subst hP hw hK
  obtain⟨old,CM,xf⟩:=st
  obtain⟨xs,hq,hx⟩:=hg
  obtain⟨aG,rv,p,hz⟩:=I.list hq
  have hl:=rv.length
  exact wpAny_pyNext_enum_end (I.ok.hd hc) CM xf p.isList (by simp;omega) fun h' eb=>⟨rfl,Inv.turnedL (t':=s.toks) (ch:=[it]) I (fun b q hb e1=>eb b q (fun z=>hb (by simp[z])) e1) fun b hb=>hf b (List.mem_cons_of_mem _ hb)⟩
 self:=fun A i s Q E st h=>by
  obtain⟨old,CM,xf⟩:=st
  exact wpAny_pyIter_enum CM h
theorem Bf{K:W.Frag}{F:Hp}{a:Addr}{vs:List V}{ds:List D}(h:SqL K F a vs)(hd:DenL K F ds vs):ItD K F (MO K a) (ds.mapIdx fun i d=> .tup [.int (i:Int),d]):=fun F' H' i s1 s2=>by
 have hs:=Same.seq s2 (Same.seq s1 h)
 refine⟨fun d e=>?_,fun hl=>⟨vs,hs,by rw[List.length_mapIdx,hd.len] at hl;exact hl⟩⟩
 rw[List.getElem?_mapIdx] at e
 cases q:ds[i]? with
 |none=>rw[q] at e;cases e
 |some d0=>
  rw[q] at e
  cases e
  obtain⟨v,e1,q1⟩:=hd.get q
  refine⟨⟨vs,v,hs,e1⟩,fun x H'' ⟨p,y1,y2,u,y3,y4⟩=>?_⟩
  subst y1 y4
  have:=y3 vs hs
  rw[e1] at this
  cases this
  have E:=Ext.lay (o:= .tup [.int (i:Int),v]) s2 y2
  exact⟨_,E,p,_,rfl,aF, .cons rfl (.cons (Den.mono E.ff (Den.mono s1 q1)) .nil),by show 2≤lim;decide⟩
section
variable{X:Cx}{Xw:Nat→Hp→Prop}{tg e:Expr}{es:List Expr}{δ δi:DE}{δs:DA}{pos p tp:Pos}{x1:Nat}
def xI:List D→M (List D)
 |[.lst ds]=>M.ret (ds.mapIdx fun i d=> .tup [.int (i:Int),d])
 |_=>M.stuck
theorem BY(hg:Gl X "enumerate")(hm:X.mg "enumerate"=none)(ha:mC X Xw [e] δs)(hs:starEach [e] X.env=[(false,eval e X.env)]:=by rfl):xr X Xw (.Tuple es x1 tp) (.Call (.Name "enumerate" p) [e] [] pos) (fun ρ=>δs ρ>>=xI):=by
 intro pins s σ H R I ⟨F,ρ,S,w⟩
 refine Call_ (gO I hg hm (show bootBuiltins "enumerate"=some (.type "enumerate") from rfl) (PyProof.Rows.callWith_type1 (bS (ha pos pins s σ H (fun vs H1=>∃F1 ds,Ext F H F1 H1∧DenL X.K F1 ds vs∧WPI X.K Xw F1 H1 (xI ds) R) I ⟨F,ρ,S,WPI.bindL w⟩) fun us s1 ⟨vs,H1,I1,r1,F1,ds,e1,q1,w1⟩=>?_) hs rfl))
 unfold xI at w1
 split at w1
 ·rename_i ds
  obtain⟨v,rfl,h1⟩:=q1.one
  obtain⟨a,xs,rfl,h2,h3,h4⟩:=h1
  obtain⟨u,rfl,r2⟩:=r1.one
  cases (show u=_ from r2)
  obtain⟨aG,rv,pl,hz⟩:=I1.list (SqL.of (K:=X.K) (e1.fh _ _ h2))
  refine call_enumerate_list pl.isList fun h' k1 k2 k3 k4=>?_
  refine wpAny_pyIter_enum k1 ?_
  refine⟨s1.heap.objs.size+1,[s1.heap.objs.size+1,s1.heap.objs.size],_,_,H1,rfl,I1.kept (t':=s1.toks) fun b o e=>k4 b o e,zV a _ _ (Nat.ne_of_gt (Nat.lt_succ_self _)),⟨.none,k1,k2⟩,fun b hb=>?_,w1 _ _ _ (Ext.refl e1.fh) (Bf (SqL.of h2) h3)⟩
  have e:s1.heap.objs.size≤b:=by
   rcases List.mem_cons.mp hb with z | z
   ·rw[z];exact Nat.le_succ _
   ·have z:b=s1.heap.objs.size:=by simpa using z
    rw[z];exact Nat.le_refl _
  exact I1.fpOk e (I1.hok.fresh e)
 ·exact w1.elim
end
def DZ:Key→D
 | .inl i=> .int i
 | .inr x=> .str x
def E9(H:Hp)(d:Addr)(od:Obj)(i:Nat)(x:V):Prop:=
 (∃aw k b,H d=some (.frz od (.dT aw))∧(aw.map (·.1))[i]? =some k∧x= .ref b∧H b=some (.tup (k.map kV)))∨
 ∃aw k,H d=some (.frz od (.dK aw))∧(aw.map (·.1))[i]? =some k∧x=kV k
def MN(d:Addr)(od:Obj):It:=
 ⟨fun i H=>(∃aw,H d=some (.frz od (.dT aw))∧i<aw.length)∨∃aw,H d=some (.frz od (.dK aw))∧i<aw.length,fun i H x H'=>H'=H∧E9 H d od i x,
  fun i H=>(∃aw,H d=some (.frz od (.dT aw))∧aw.length≤i)∨∃aw,H d=some (.frz od (.dK aw))∧aw.length≤i⟩
theorem l7{α β γ:Type}{R:α→β→Prop}{f:α→γ}{g:β→γ}(h:∀a b,R a b→f a=g b):∀{l:List α}{m:List β},Paired R l m→l.map f=m.map g
 |_,_, .nil=>rfl
 |_,_, .cons r t=>by rw[List.map_cons,List.map_cons,h _ _ r,l7 h t]
theorem i_{α β:Type}{R:α→β→Prop}:∀{l:List α}{m:List β}{i:Nat}{a:α},Paired R l m→l[i]? =some a→∃b,m[i]? =some b∧R a b
 |_,_,i,_, .nil,e=>by simp at e
 |_,_,0,_, .cons r t,e=>by simp at e;subst e;exact⟨_,rfl,r⟩
 |_,_,i+1,_, .cons r t,e=>by
  obtain⟨b,e1,e2⟩:=i_ (i:=i) t (by simpa using e)
  exact⟨b,by simpa using e1,e2⟩
theorem zF{prog:Program}{w:World}{κ:Type}[DecidableEq κ]{knd:KeyKind prog w κ}:∀{es:List DictEntry}{aw:List (κ×Value)}{i:Nat}{kv:κ×Value},Pairs knd es aw→aw[i]? =some kv→∃e,es[i]? =some e∧knd.is kv.1 e.key=true:=by
 intro es aw i kv h e
 induction h generalizing i with
 |nil=>simp at e
 | @cons en Qb Fi Pn h1 h2 h3 ih=>
   cases i with
   |zero=>simp at e;subst e;exact⟨en,rfl,h1⟩
   |succ i=>
    obtain⟨q,e1,e2⟩:=ih (i:=i) (by simpa using e)
    exact⟨q,by simpa using e1,e2⟩
theorem GU{k:Key}{u:Value}(h:nA k u=true):RelV (kV k) u:=by
 rcases bD h with⟨i,t,rfl,rfl⟩ | ⟨x,t,rfl,rfl⟩
 ·exact⟨t,rfl⟩
 ·exact⟨t,rfl⟩
theorem mZ{X:Cx}{pins:List (Addr×Obj)}{σ:St}{H:Hp}{s:Shared}{d:Addr}{od:Obj}{n:Nat}(I:Inv X pins σ H s)
 (h:(∃aw,H d=some (.frz od (.dT aw))∧n=aw.length)∨∃aw,H d=some (.frz od (.dK aw))∧n=aw.length):
 ∃es ep,(d==sysModules)=false∧s.heap.get? d=some od∧od.ExactDict∧od.data= .dict es ep∧es.size=n∧∀i,i<n→∃e x,es[i]? =some e∧RelV x e.key∧E9 H d od i x:=by
 rcases h with⟨aw,e,rfl⟩ | ⟨aw,e,rfl⟩
 ·obtain⟨ho,z,lo,xs,rel,o,es,ep,h1,h2,h3,h4,h5⟩:=(show ObjOk X.prog X.w H s.heap d (.frz od (.dT aw)) from I.hok d _ e)
  rw[ho] at h1
  cases h1
  have hl:es.size=aw.length:=by
   rw[←Array.length_toList,h4,List.length_map]
   exact(Paired.length rel).symm
  refine⟨es,ep,lo,ho,h2,h3,hl,fun i hi=>?_⟩
  obtain⟨q,e1,e2,e3,e4⟩:=i_ rel (List.getElem?_eq_getElem hi)
  refine⟨entryOfKey (tupleKind (bj X.prog X.w)) q, .ref q.2.1,?_,rfl, .inl ⟨aw,aw[i].1,q.2.1,e,?_,rfl,e3⟩⟩
  ·rw[←Array.getElem?_toList,h4,List.getElem?_map,e1]
   rfl
  ·rw[List.getElem?_map,List.getElem?_eq_getElem hi]
   rfl
 ·obtain⟨ho,z,lo,vs,rel,o,es,ep,h1,h2,h3,h4,h5,h6⟩:=(show ObjOk X.prog X.w H s.heap d (.frz od (.dK aw)) from I.hok d _ e)
  rw[ho] at h1
  cases h1
  have hl:es.size=aw.length:=by
   rw[←Array.length_toList,h5.length]
   exact(Paired.length rel).symm
  refine⟨es,ep,lo,ho,h2,h3,hl,fun i hi=>?_⟩
  obtain⟨q,e1,e2,e3⟩:=i_ rel (List.getElem?_eq_getElem hi)
  obtain⟨en,e4,e5⟩:=zF h5 e1
  refine⟨en,kV aw[i].1,by rw[←Array.getElem?_toList];exact e4,?_, .inr ⟨aw,aw[i].1,e,by rw[List.getElem?_map,List.getElem?_eq_getElem hi];rfl,rfl⟩⟩
  rw[e2]
  exact GU e5
theorem zW{P:Program}{w:World}{K:W.Frag}{tg:Expr}(d it:Addr)(od:Obj)(es:Array DictEntry)(ep:Nat)(mx:od.data= .dict es ep):
 Turn P w K tg (MN d od) [it] it (fun i h=>h.IsKeyIter it d i es.size ep) where
 mem:=by simp
 obj:=fun i h st b hb=>by
  have e:b=it:=by simpa using hb
  subst e
  obtain⟨o,e,c,dd⟩:=st
  exact⟨o,e,fun v z=>by rw[dd] at z;cases z⟩
 keep:=fun i h h' st k=>st.at fun o e=>k it (by simp) o e
 item:=by
  intro X hP hw hK hc i pins s σ H E I hf st hg
  subst hP hw hK
  obtain⟨n,hn,hi⟩:∃n,((∃aw,H d=some (.frz od (.dT aw))∧n=aw.length)∨∃aw,H d=some (.frz od (.dK aw))∧n=aw.length)∧i<n:=by
   rcases hg with⟨aw,e,hi⟩ | ⟨aw,e,hi⟩
   ·exact⟨_, .inl ⟨aw,e,rfl⟩,hi⟩
   ·exact⟨_, .inr ⟨aw,e,rfl⟩,hi⟩
  obtain⟨Fi,Dv,lo,ho,hx,qc,hsz,hk⟩:=mZ I hn
  rw[mx] at qc
  cases qc
  obtain⟨en,x,e1,rx,ka⟩:=hk i hi
  obtain⟨f0,f1,f2,f3,f4,f5⟩:=hf it (by simp)
  refine uD st ho mx e1 fun h' oR sb=>?_
  have I1:Inv X pins σ H {s with heap:=h'}:=I.turned (t':=s.toks) (fun b o hb e=>(sb.2 b hb).trans e) f0 f1 f3 f4 f5
  obtain⟨o,e2,c,dd⟩:=id oR
  exact⟨_,rfl,qb (s:={s with heap:=h'}) e2 c dd (by decide) ⟨x,H,I1,rx,⟨rfl,ka⟩,oR,fun b hb=>(hf b hb).1⟩⟩
 done:=by
  intro X hP hw hK hc i pins s σ H E I hf st hg
  subst hP hw hK
  obtain⟨n,hn,hi⟩:∃n,((∃aw,H d=some (.frz od (.dT aw))∧n=aw.length)∨∃aw,H d=some (.frz od (.dK aw))∧n=aw.length)∧n≤i:=by
   rcases hg with⟨aw,e,hi⟩ | ⟨aw,e,hi⟩
   ·exact⟨_, .inl ⟨aw,e,rfl⟩,hi⟩
   ·exact⟨_, .inr ⟨aw,e,rfl⟩,hi⟩
  obtain⟨Fi,Dv,lo,ho,hx,qc,hsz,hk⟩:=mZ I hn
  rw[mx] at qc
  cases qc
  obtain⟨f0,f1,f2,f3,f4,f5⟩:=hf it (by simp)
  exact p8 (I.ok.hd hc) st (by omega) ho mx fun h' eb=>⟨rfl,I.turned (t':=s.toks) (fun b o hb e=>eb b o hb e) f0 f1 f3 f4 f5⟩
 self:=fun _ _ _ _ _ st h=>wpAny_pyIter_keyiter st h
def tupK(k:List Key):D:= .tup (k.map DZ)
def yi:Key→Bool
 | .inl _=>true
 | .inr x=>decide (x.length≤lim)
def lI:D→M (List D)
 | .dct ks _=>if ks.all (fun k=>decide (k.length≤lim)&&k.all yi) then M.ret (ks.map tupK) else M.stuck
 | .dci ks _=>if ks.all yi then M.ret (ks.map DZ) else M.stuck
 |_=>M.stuck
theorem uv{K:W.Frag}{F:Hp}{k:Key}(h:yi k=true):Den K F (DZ k) (kV k):=by
 cases k with
 |inl i=>exact rfl
 |inr x=>exact⟨rfl,of_decide_eq_true h⟩
theorem qm{K:W.Frag}{F:Hp}:∀{k:List Key},k.all yi=true→DenL K F (k.map DZ) (k.map kV)
 |[],_=>rfl
 |x::k,h=>by
  rw[List.all_cons,Bool.and_eq_true] at h
  exact .cons (uv h.1) (qm h.2)
theorem Bg{K:W.Frag}{F:Hp}{a:Addr}{ob:Obj}{d:D}{ds:List D}(hd:Den K F d (.ref a))(hF:∃u,F a=some (.frz ob u))(e:lI d=M.ret ds):ItD K F (MN a ob) ds:=fun F' H' i s1 s2=>by
 unfold lI at e
 split at e
 ·rename_i ks es
  split at e
  ·rename_i hok
   obtain rfl:=fm e
   obtain⟨a',Ic,vs,z,h2,h3,h4,h5⟩:=hd
   cases z
   obtain⟨u,hu⟩:=hF
   rw[h2] at hu
   cases hu
   have hh:=s2 _ _ (s1 _ _ h2)
   have hz:=iJ (a:=ks) (b:=vs) (by rw[h4];exact h3.len)
   have hl:(ks.zip vs).length=ks.length:=by rw[←List.length_map (f:=(·.1)),hz]
   refine⟨fun d e=>?_,fun hle=> .inl ⟨_,hh,by rw[hl];simpa using hle⟩⟩
   rw[List.getElem?_map] at e
   cases q:ks[i]? with
   |none=>rw[q] at e;cases e
   |some k=>
    rw[q] at e
    cases e
    have hi:=(List.getElem?_eq_some_iff.mp q).1
    refine⟨.inl ⟨_,hh,by rw[hl];exact hi⟩,fun x H'' ⟨y1,y2⟩=>?_⟩
    subst y1
    have hk:=List.all_eq_true.mp hok k (List.mem_of_getElem? q)
    rw[Bool.and_eq_true] at hk
    rcases y2 with⟨aw,k',b,q1,q2,rfl,q3⟩ | ⟨aw,k',q1,q2,rfl⟩
    ·rw[hh] at q1
     cases q1
     rw[hz,q] at q2
     cases q2
     have E:=Ext.tup (F:=F') s2 q3
     exact⟨_,E,b,_,rfl,aF,qm hk.2,by rw[List.length_map];exact of_decide_eq_true hk.1⟩
    ·rw[hh] at q1;cases q1
  ·exact(il e).elim
 ·rename_i ks es
  split at e
  ·rename_i hok
   obtain rfl:=fm e
   obtain⟨a',Ic,vs,z,h2,h3,h4,h5⟩:=hd
   cases z
   obtain⟨u,hu⟩:=hF
   rw[h2] at hu
   cases hu
   have hh:=s2 _ _ (s1 _ _ h2)
   have hz:=iJ (a:=ks) (b:=vs) (by rw[h4];exact h3.len)
   have hl:(ks.zip vs).length=ks.length:=by rw[←List.length_map (f:=(·.1)),hz]
   refine⟨fun d e=>?_,fun hle=> .inr ⟨_,hh,by rw[hl];simpa using hle⟩⟩
   rw[List.getElem?_map] at e
   cases q:ks[i]? with
   |none=>rw[q] at e;cases e
   |some k=>
    rw[q] at e
    cases e
    have hi:=(List.getElem?_eq_some_iff.mp q).1
    refine⟨.inr ⟨_,hh,by rw[hl];exact hi⟩,fun x H'' ⟨y1,y2⟩=>?_⟩
    subst y1
    have hk:=List.all_eq_true.mp hok k (List.mem_of_getElem? q)
    rcases y2 with⟨aw,k',b,q1,q2,rfl,q3⟩ | ⟨aw,k',q1,q2,rfl⟩
    ·rw[hh] at q1;cases q1
    ·rw[hh] at q1
     cases q1
     rw[hz,q] at q2
     cases q2
     exact⟨F',Ext.refl s2,uv hk⟩
  ·exact(il e).elim
 ·exact(il e).elim
section
variable{X:Cx}{Xw:Nat→Hp→Prop}{tg l:Expr}{δ:DE}
theorem BZ(h:PD X Xw l δ):xr X Xw tg l (fun ρ=>δ ρ>>=lI):=by
 intro pins s σ H R I ⟨F,ρ,S,w⟩
 refine bS (h pins s σ H (fun v H1=>∃F1 d,Ext F H F1 H1∧Den X.K F1 d v∧WPI X.K Xw F1 H1 (lI d) R) I ⟨F,ρ,S,WPI.bind w⟩) fun u s1 ⟨v,H1,I1,r1,F1,d,e1,q1,w1⟩=>?_
 rcases(lI d).cs with z | ⟨n,z⟩ | ⟨ds,z⟩
 ·rw[z] at w1;exact w1.elim
 ·exfalso
  unfold lI at z
  split at z
  ·split at z<;>cases z
  ·split at z<;>cases z
  ·cases z
 ·rw[z] at w1
  obtain⟨a,ob,u',rfl,hF,hn⟩:∃a ob u',v= .ref a∧F1 a=some (.frz ob u')∧∃n,((∃aw,H1 a=some (.frz ob (.dT aw))∧n=aw.length)∨∃aw,H1 a=some (.frz ob (.dK aw))∧n=aw.length):=by
   unfold lI at z
   split at z
   ·obtain⟨a,ob,vs,e,h2,_⟩:=q1;exact⟨a,ob,_,e,h2,_, .inl ⟨_,e1.fh _ _ h2,rfl⟩⟩
   ·obtain⟨a,ob,vs,e,h2,_⟩:=q1;exact⟨a,ob,_,e,h2,_, .inr ⟨_,e1.fh _ _ h2,rfl⟩⟩
   ·exact(il z).elim
  obtain⟨n,hn⟩:=hn
  cases (show u=_ from r1)
  obtain⟨es,ep,lo,ho,hx,hd,hsz,hk⟩:=mZ I1 hn
  refine qk lo ho hx hd ?_
  refine⟨s1.heap.objs.size,[s1.heap.objs.size],_,_,H1,rfl,I1.kept (t':=s1.toks) fun b o e=>Heap.get?_push_of_some _ e,zW a _ ob es ep hd,⟨_,Heap.get?_push_size _ rfl,rfl,rfl⟩,fun b hb=>?_,w1 _ _ _ (Ext.refl e1.fh) (Bg q1 ⟨_,hF⟩ z)⟩
  have e:b=s1.heap.objs.size:=by simpa using hb
  subst e
  exact I1.fpOk (Nat.le_refl _) (I1.hok.fresh (Nat.le_refl _))
end
end L3
namespace L3
open PySem
section
variable{prog:Program}{w:World}{K:Type}[DecidableEq K]{knd:HeapKind prog w K}{A:Around}{E:Value→Shared→Prop}{s:Shared}
theorem oK{d a:Addr}{xs:List (K×Addr×Value)}{k:K}{v:Value}{Q:Unit→Shared→Prop}(hu:knd.room A)(y8:knd.is s.heap k a)(hm:s.heap.DictOfH knd d xs)(hsz:xs.length≤sizeLine)
 (hQ:∀h',h'.DictOfH knd d (storedH xs k a v)→Heap.SameBut d s.heap h'→Q () {s with heap:=h'}):wpAny (model prog w) A (dictSetHashed d (.ref a) (knd.hash k) v) Q E s:=by
 obtain⟨o,es,ep,ho,hc,hd,he,LG,hn⟩:=hm
 unfold dictSetHashed
 refine wpAny_holding (wpAny_bind (wpAny_dictFind_heap hu y8 ho hd he LG hn (fun nj=>?_) fun j p hj=>?_))
 ·have e0:=atKey_none_of_get nj
  have hz:es.size≤sizeLine:=by rw[size_of_entries he];exact hsz
  refine wpAny_bind (wpAny_rule (wpAny_updateDictKeys (hz:=hz) ho hd (hQ _ ?_ (Heap.SameBut.update ..))))
  rw[storedH_new e0]
  refine⟨_,_,ep+1,Heap.get?_update_self _ ho (Obj.isFreed_of_dict (Obj.data_mapDictKeys hd _)),hc.mapDictKeys _,Obj.data_mapDictKeys hd _,by simp[he,entryOfKey],fun x hx=>?_,?_⟩
  ·rcases List.mem_append.mp hx with hx | hx
   ·exact knd.keeps (LG x hx) ho hd (Heap.SameBut.update ..)
   ·obtain rfl:x=(k,a,v):=by simpa using hx
    exact knd.keeps y8 ho hd (Heap.SameBut.update ..)
  ·rw[List.map_append]
   refine List.nodup_append.mpr ⟨hn,by simp,fun x hx y hy z=>?_⟩
   have hy:y=k:=by simpa using hy
   exact not_mem_keys_of_get nj (by rw[←hy,←z];exact hx)
 ·have e0:=atKey_of_get hn hj
  refine wpAny_bind (wpAny_rule (wpAny_bind (wpAny_updateDict ho hd (wpAny_point (hQ _ ?_ (Heap.SameBut.update ..))))))
  rw[storedH_old e0]
  refine⟨_,_,ep,Heap.get?_update_self _ ho (Obj.isFreed_of_dict (Obj.data_mapDict hd _)),hc.mapDict _,Obj.data_mapDict hd _,?_,fun x hx=>?_,by rw[keys_map_putAt];exact hn⟩
  ·have:=modify_map_putAt (entryOfKey knd) (fun e:DictEntry=>{e with val:=v}) k v (fun _ _=>rfl) hn hj
   rw[←he] at this
   obtain⟨l⟩:=es
   simpa using this
  ·obtain⟨y,hy,rfl⟩:=List.mem_map.mp hx
   unfold putAt
   split<;>exact knd.keeps (LG y hy) ho hd (Heap.SameBut.update ..)
def cx(xs ys:List (K×Addr×Value)):List (K×Addr×Value):=ys.foldl (fun acc y=>storedH acc y.1 y.2.1 y.2.2) xs
theorem vw(xs:List (K×Addr×Value))(k:K)(a:Addr)(v:Value):(storedH xs k a v).length≤xs.length+1:=by
 unfold storedH;split<;>simp
theorem lK:∀(ys xs:List (K×Addr×Value)),(cx xs ys).length≤xs.length+ys.length
 |[],xs=>Nat.le_refl _
 |y::ys,xs=>by
  have h1:=lK ys (storedH xs y.1 y.2.1 y.2.2)
  have h2:=vw xs y.1 y.2.1 y.2.2
  show (cx (storedH xs y.1 y.2.1 y.2.2) ys).length≤_
  rw[List.length_cons];omega
theorem r9{xs ys:List (K×Addr×Value)}{i:Nat}{y:K×Addr×Value}(h:ys[i]? =some y):cx xs (ys.take (i+1))=storedH (cx xs (ys.take i)) y.1 y.2.1 y.2.2:=by
 rw[List.take_add_one,h]
 unfold cx
 rw[List.foldl_append]
 rfl
theorem lL:∀(ys acc:List (K×Addr×Value)),((acc++ys).map (·.1)).Nodup→cx acc ys=acc++ys
 |[],acc,_=>by simp[cx]
 |y::ys,acc,hn=>by
  show cx (storedH acc y.1 y.2.1 y.2.2) ys=_
  have Gw:y.1∉acc.map (·.1):=fun h=>by
   rw[List.map_append] at hn
   exact(List.nodup_append.mp hn).2.2 _ h _ (by simp) rfl
  have e0:atKey acc y.1=none:=atKey_none_of_get fun j p hj=>Gw (List.mem_map.mpr ⟨_,List.mem_of_getElem? hj,rfl⟩)
  rw[storedH_new e0,lL ys (acc++[(y.1,y.2.1,y.2.2)]) (by simpa using hn)]
  simp
theorem rJ{id:String}{o:Addr}{ob:Obj}{es:Array DictEntry}{ep:Nat}{Q:Array DictEntry→Shared→Prop}(ho:s.heap.get? o=some ob)(hd:ob.data= .dict es ep)
 (hq:∀e∈es.toList,∃a,e.key= .ref a∧s.TypeIs (.ref a) "tuple")(hh:∀e∈es.toList,(es.filter (·.hash==e.hash)).size≤1)(h:Q es s):wpAny (model prog w) A (Builtin.Dict.entriesForEmpty id o) Q E s:=by
 unfold Builtin.Dict.entriesForEmpty
 refine wpAny_bind (wpAny_dictEntries ho hd ?_)
 rw[←Array.forIn_toList]
 refine wpAny_bind (wpAny_forIn_list _ (fun rest _ s'=>s'=s∧∀e∈rest,e∈es.toList) _ ?_ ?_ _ _ ⟨rfl,fun _ h=>h⟩)
 ·rintro e rest b s' ⟨rfl,hr⟩
  obtain⟨a,ea,ta⟩:=hq e (hr e (List.mem_cons_self ..))
  have hf:=hh e (hr e (List.mem_cons_self ..))
  have d5:¬((es.filter (·.hash==e.hash)).size>1):=by omega
  rw[ea]
  unfold Builtin.Dict.quietEq
  refine wpAny_bind (wpAny_bind (wpAny_specialOf ta F.slot_tuple_eq.lookup (wpAny_pure ?_)))
  simp only[d5,if_false]
  have:(some (Value.builtin "tuple.__eq__")==some (Value.builtin "object.__eq__"))=false:=by decide
  simp only[this,Bool.not_false,if_true]
  exact wpAny_pure ⟨rfl,fun x hx=>hr x (List.mem_cons_of_mem _ hx)⟩
 ·rintro b s' ⟨rfl,_⟩
  exact wpAny_pure h
theorem nN{nm:String}{d o:Addr}{xs ys:List (K×Addr×Value)}{Q:Unit→Shared→Prop}(hu:knd.room A)(Ni:d≠o)(OX:(o==sysModules)=false)(hd:s.heap.DictOfH knd d xs)(ho:s.heap.DictOfH knd o ys)
 (ON:∀{h:Heap}{k:K}{a:Addr},knd.is h k a→∃ob,h.get? a=some ob∧ob.cls= .type "tuple")(hh:xs=[]→(ys.map fun y=>knd.hash y.1).Nodup)(hsz:xs.length+ys.length≤sizeLine)
 (hQ:∀h',h'.DictOfH knd d (cx xs ys)→Heap.SameBut d s.heap h'→Q () {s with heap:=h'}):wpAny (model prog w) A (Builtin.Dict.mergeDict nm d o) Q E s:=by
 obtain⟨od,N4,N1,y_,vK,mx,Ox,LB,Ac⟩:=id hd
 obtain⟨oo,v3,N2,Jh,PY,yZ,Aa,LF,nj⟩:=id ho
 have hlen:=size_of_entries Aa
 unfold Builtin.Dict.mergeDict
 rw[if_neg (by simpa using Ni)]
 unfold Builtin.Dict.showsAll
 rw[if_neg (by rw[OX];exact Bool.false_ne_true)]
 refine wpAny_bind (wpAny_pure (wpAny_bind (wpAny_dictEntries Jh yZ ?_)))
 have loop:∀(body:Nat→PUnit→Sem (ForInStep PUnit)),body=(fun i (_:PUnit)=>(do
       let l'←dictEntries o
       match l'[i]? with
        |some e=>do
         holding [e.key,e.val] (dictSetHashed d e.key e.hash e.val)
         let Dv←dictEpoch o
         if (Dv !=N2)=true then do (unsupported (toString nm++toString ":source-changed-during-callback"):Sem PUnit);pure (ForInStep.yield PUnit.unit) else pure (ForInStep.yield PUnit.unit)
        |_=>do
         (unsupported "internal:dict-merge":Sem PUnit)
         pure (ForInStep.yield PUnit.unit):Sem (ForInStep PUnit)))→wpAny (model prog w) A (forIn [:v3.size] PUnit.unit body) (fun _ s'=>Q () s') E s:=by
  rintro _ rfl
  rw[Std.Legacy.Range.forIn_eq_forIn_range']
  simp only[Std.Legacy.Range.size,Nat.sub_zero,Nat.add_sub_cancel,Nat.div_one]
  refine wpAny_forIn_list _ (fun rest _ s'=>∃h' i,s'={s with heap:=h'}∧rest=List.range' i (v3.size - i)∧i≤v3.size∧h'.DictOfH knd d (cx xs (ys.take i))∧h'.get? o=some oo∧Heap.SameBut d s.heap h') _ ?_ ?_ _ _
   ⟨s.heap,0,rfl,by simp,Nat.zero_le _,by simpa[cx] using hd,Jh,Heap.SameBut.refl _ _⟩
  ·rintro x rest b s' ⟨h',i,rfl,hr,hi,qc,GA,uk⟩
   have d5:i<v3.size:=by
    by_cases h:i<v3.size
    ·exact h
    ·rw[show v3.size - i=0 by omega] at hr;simp at hr
   rw[show v3.size - i=(v3.size - (i+1))+1 by omega,List.range'_succ] at hr
   injection hr with h1 h2
   subst h1
   refine wpAny_bind (wpAny_dictEntries GA yZ ?_)
   obtain⟨y,hy⟩:∃y,ys[x]? =some y:=⟨_,List.getElem?_eq_getElem (by omega)⟩
   rw[entry_at Aa x,hy]
   have OU:(cx xs (ys.take x)).length≤sizeLine:=by
    have e1:=lK (ys.take x) xs
    rw[List.length_take] at e1
    omega
   have OO:knd.is h' y.1 y.2.1:=knd.keeps (LF y (List.mem_of_getElem? hy)) y_ mx uk
   refine wpAny_bind (wpAny_holding (oK hu OO qc OU fun M3 Lu Jj=>?_))
   have Fx:M3.get? o=some oo:=(Jj.2 o (Ne.symm Ni)).trans GA
   refine wpAny_bind (wpAny_dictEpoch Fx yZ ?_)
   rw[if_neg (by simp)]
   exact wpAny_pure ⟨M3,x+1,rfl,h2,d5,by rw[r9 hy];exact Lu,Fx,uk.trans Jj⟩
  ·rintro b s' ⟨h',i,rfl,hr,hi,qc,GA,uk⟩
   have wa:i=v3.size:=by
    by_cases h:i<v3.size
    ·rw[show v3.size - i=(v3.size - (i+1))+1 by omega,List.range'_succ] at hr;exact nomatch hr
    ·omega
   refine hQ h' ?_ uk
   rw[wa,hlen,List.take_length] at qc;exact qc
 have go:wpAny (model prog w) A (do
  let IC←dictEpoch o
  let l←dictEntries o
  forIn [:l.size] PUnit.unit fun i (_:PUnit)=>(do
   let l'←dictEntries o
   match l'[i]? with
    |some e=>do
     holding [e.key,e.val] (dictSetHashed d e.key e.hash e.val)
     let Dv←dictEpoch o
     if (Dv !=IC)=true then do (unsupported (toString nm++toString ":source-changed-during-callback"):Sem PUnit);pure (ForInStep.yield PUnit.unit) else pure (ForInStep.yield PUnit.unit)
    |_=>do
     (unsupported "internal:dict-merge":Sem PUnit)
     pure (ForInStep.yield PUnit.unit):Sem (ForInStep PUnit))
  pure ()) Q E s:=by
  refine wpAny_bind (wpAny_dictEpoch Jh yZ (wpAny_bind (wpAny_dictEntries Jh yZ (wpAny_bind ?_))))
  exact wpAny_mono (loop _ rfl) (fun _ _ h=>wpAny_pure h) fun _ _ h=>h
 dsimp only
 split
 ·refine wpAny_bind (wpAny_dictEntries y_ mx ?_)
  split
  ·rename_i Gm
   have Jo:xs=[]:=by
    have h0:N4= #[]:=Array.isEmpty_iff.mp Gm
    have:=size_of_entries Ox
    rw[h0] at this
    exact List.length_eq_zero_iff.mp (by simpa using this.symm)
   subst Jo
   have OV:=hh rfl
   refine wpAny_bind (rJ Jh yZ (fun e he=>?_) (fun e he=>?_) ?_)
   ·rw[Aa] at he
    obtain⟨y,hy,rfl⟩:=List.mem_map.mp he
    obtain⟨ob,h1,h2⟩:=ON (LF y hy)
    exact⟨y.2.1,rfl,ob,h1,h2⟩
   ·have:(v3.filter (·.hash==e.hash)).size=((ys.map fun y=>knd.hash y.1).filter (· ==e.hash)).length:=by
     rw[←Array.length_toList,Array.toList_filter,Aa,List.filter_map,List.filter_map,List.length_map,List.length_map]
     rfl
    rw[this]
    have hc:=List.nodup_iff_count.mp OV e.hash
    rw[List.count_eq_countP,List.countP_eq_length_filter] at hc
    exact hc
   ·have hm:cx ([]:List (K×Addr×Value)) ys=ys:=by
     rw[lL ys [] (by simpa using nj)];rfl
    rw[hm] at hQ
    split
    ·have O8:v3.size≤sizeLine+1:=by simp at hsz;omega
     refine wpAny_bind (wpAny_updateDictKeysTo y_ mx (wpAny_pure (hQ _ ⟨_,_,N1+1,Heap.get?_update_self _ y_ (Obj.isFreed_of_dict (Obj.data_mapDictKeys mx _)),vK.mapDictKeys _,Obj.data_mapDictKeys mx _,Aa,fun x hx=>?_,nj⟩ (Heap.SameBut.update ..))) O8)
     exact knd.keeps (LF x hx) y_ mx (Heap.SameBut.update ..)
    ·rename_i gN
     have h0:v3= #[]:=Array.isEmpty_iff.mp (by simpa using gN)
     have OR:ys=[]:=List.length_eq_zero_iff.mp (by rw[←hlen,h0];rfl)
     subst OR
     exact wpAny_pure (hQ _ hd (Heap.SameBut.refl _ _))
  ·exact go
 ·exact go
end
end L3
namespace L3
open PySem PySem.Spec L2
open PyProof.Rows hiding St
theorem E4{P:Program}{w:World}{h:Heap}{k:List Key}{a:Addr}(h1:(tupleKind (bj P w)).is h k a):∃ob,h.get? a=some ob∧ob.cls= .type "tuple":=by
 obtain⟨ob,aG,n,q1,q2,_⟩:=h1
 exact⟨ob,q1,q2⟩
def gQ(aw more:List (List Key×V)):List (List Key×V):=more.foldl (fun acc kv=>putK acc kv.1 kv.2) aw
theorem x_{H:Hp}:∀{more:List (List Key×V)}{ys:List (List Key×Addr×Value)},KT H more ys→∀{aw:List (List Key×V)}{xs:List (List Key×Addr×Value)},KT H aw xs→KT H (gQ aw more) (cx xs ys)
 |_,_, .nil,_,_,q=>q
 |_,_, .cons h t,aw,xs,r=>by
  refine x_ t ?_
  have:=KT.put r _ h.2.1 h.2.2
  rw[h.1] at this
  show KT H (putK aw _ _) (storedH xs _ _ _)
  rw[h.1]
  exact this
theorem nE:∀(more aw:List (List Key×V)),(gQ aw more).length≤aw.length+more.length
 |[],aw=>Nat.le_refl _
 |p::r,aw=>by
  have h1:=nE r (putK aw p.1 p.2)
  have h2:=eg aw p.1 p.2
  show (gQ (putK aw p.1 p.2) r).length≤_
  rw[List.length_cons];omega
def c0(k:List Int):Int:=reduceHash (Builtin.Tuple.tupleHashOf (k.map hashInt))
theorem A1{P:Program}{w:World}(k:List Int):(tupleKind (bj P w)).hash (nz k)=c0 k:=by
 show reduceHash (Builtin.Tuple.tupleHashOf ((nz k).map (Jx w)))=_
 unfold c0 nz
 rw[List.map_map]
 rfl
section
variable{X:Cx}{pins:List (Addr×Obj)}{σ:St}{H:Hp}{s:Shared}{a b:Addr}{A:Around}{E:Value→Shared→Prop}
theorem AE{aw more:List (List Key×V)}{ks:List (List Int)}{Q:Value→Shared→Prop}(hu:A.units+2<cLine)(I:Inv X pins σ H s)(ha:H a=some (.dT aw))(hb:Rd H b (.dT more))(yY:a≠b)(hk:more.map (·.1)=ks.map nz)
 (hh:aw=[]→(ks.map c0).Nodup)(hz:aw.length+more.length≤sizeLine)(h:∀s',Inv X pins σ (upd H a (.dT (gQ aw more))) s'→Q .none s'):
 wpAny (model X.prog X.w) A (call (.builtin "dict.update") [.ref a, .ref b]) Q E s:=by
 obtain⟨z1,lo1,xs,J5,MV⟩:=AK I.hok ha
 obtain⟨z2,Po,ys,EM,Dq⟩:=m7 I.hok hb
 have l1:=Paired.length J5
 have l2:=Paired.length EM
 have hT:=MV.typeIs
 refine wpAny_call_entry PySem.F.slot_dict_update hT PySem.F.entry_dict_update ?_ (PySem.F.args_dict_update_2 _ _)
 unfold Builtin.«dict.update»
 refine wpAny_bind ?_
 unfold Builtin.Dict.selfAndRest
 refine wpAny_bind (wpAny_notOrdered_dict hT ?_)
 show wpAny _ _ (pure (a,[Value.ref b])) _ _ s
 refine wpAny_pure ?_
 show wpAny _ _ (Builtin.Dict.updateFrom "dict.update" a (.ref b) [] .none) _ _ s
 unfold Builtin.Dict.updateFrom
 refine wpAny_bind (wpAny_typeOf Dq.typeIs ?_)
 rw[if_neg (by decide)]
 refine wpAny_bind ?_
 unfold Builtin.Dict.merge
 refine wpAny_bind ?_
 unfold Builtin.Dict.readDirectly
 refine wpAny_bind (wpAny_isInstance Dq.typeIs isSubtype_dict_dict ?_)
 simp only[Bool.not_true,Bool.false_eq_true,if_false]
 refine wpAny_bind (wpAny_specialOf Dq.typeIs PySem.F.slot_dict_iter.lookup (wpAny_pure ?_))
 simp only[beq_self_eq_true,if_true]
 refine wpAny_bind (wpAny_pure ?_)
 refine nN (knd:=tupleKind (bj X.prog X.w)) (show A.in1.units<cLine by show A.units+1<cLine;omega) yY Po MV Dq E4 (fun e0=>?_) (by omega) fun h' AF uk=>?_
 ·have e1:aw=[]:=List.length_eq_zero_iff.mp (by rw[l1,e0];rfl)
  have:=hh e1
  have e2:(ys.map fun y=>(tupleKind (bj X.prog X.w)).hash y.1)=ks.map c0:=by
   have e3:more.map (·.1)=ys.map (·.1):=l7 (fun _ _ r=>r.1) EM
   rw[show (fun y:List Key×Addr×Value=>(tupleKind (bj X.prog X.w)).hash y.1)=(tupleKind (bj X.prog X.w)).hash∘(·.1) from rfl,←List.map_map,←e3,hk,List.map_map]
   exact List.map_congr_left fun k _=>A1 k
  rw[e2];exact this
 ·show wpAny _ _ (Builtin.Dict.addKeywords a []>>=_) _ _ _
  refine wpAny_bind (wpAny_pure (wpAny_pure ⟨.none,rfl,h _ ?_⟩))
  obtain⟨q,es,ep,hq,h2,h3,h4,_,h5⟩:=AF
  have hl:(gQ aw more).length≤sizeLine:=by have:=nE more aw;omega
  refine jj I (t':=s.toks) (by rw[ha];exact True.intro) uk ⟨q,hq⟩ ⟨hl,lo1,_,(x_ EM J5).keeps fun c ys ec=>?_,q,es,ep,hq,h2,h3,h4,h5⟩
  rw[av (Bv ec ha (fun z=>nomatch z))]
  exact ec
end
def bQ(ks:List (List Key))(ds:List D):List (List Key)→List D→List (List Key)×List D
 |k::ks',d::ds'=>bQ (cW ks ds k) (b5 ks ds k d) ks' ds'
 |_,_=>(ks,ds)
def CZ(ks:List (List Key))(ds:List D):D→Option C
 | .dct ks' ds'=>match eQ ks' with
   |some ns=>if ds.length+ds'.length≤lim∧(ks.isEmpty=true→(ns.map c0).Nodup) then some (.dct (bQ ks ds ks' ds').1 (bQ ks ds ks' ds').2) else none
   |none=>none
 |_=>none
theorem nL{K:W.Frag}{F:Hp}:∀{ks':List (List Key)}{ds':List D}{vs':List V}{ks:List (List Key)}{ds:List D}{vs:List V},DenL K F ds' vs'→ks'.length=ds'.length→DenL K F ds vs→ks.length=ds.length→
 ∃ws,gQ (ks.zip vs) (ks'.zip vs')=(bQ ks ds ks' ds').1.zip ws∧DenL K F (bQ ks ds ks' ds').2 ws∧(bQ ks ds ks' ds').1.length=(bQ ks ds ks' ds').2.length
 |[],[],vs',ks,ds,vs,h',_,h,hl=>⟨vs,rfl,h,hl⟩
 |k::ks',d::ds',vs',ks,ds,vs,⟨v,r,e,h1,h2⟩,Fw,h,hl=>by
  subst e
  obtain⟨ws,e1,e2,e3⟩:=sJ (K:=K) (F:=F) h1 k h hl
  obtain⟨us,q1,q2,q3⟩:=nL (ks':=ks') (ds':=ds') (vs':=r) h2 (by simpa using Fw) e2 e3
  refine⟨us,?_,q2,q3⟩
  show gQ (putK (ks.zip vs) k v) (ks'.zip r)=_
  rw[e1]
  exact q1
 |[],_::_,_,_,_,_,_,Fw,_,_=>by simp at Fw
 |_::_,[],_,_,_,_,_,Fw,_,_=>by simp at Fw
theorem Ck{κ:Type}[DecidableEq κ]{ks:List κ}{ds:List D}{k:κ}{d:D}(hl:ks.length=ds.length):(b5 ks ds k d).length≤ds.length+1:=by
 unfold b5
 split
 ·rw[g8 ks ds k d hl];omega
 ·simp
theorem Cm{κ:Type}[DecidableEq κ]{ks:List κ}{ds:List D}{k:κ}{d:D}(hl:ks.length=ds.length):(cW ks ds k).length=(b5 ks ds k d).length:=by
 unfold b5 cW
 split
 ·rw[g8 ks ds k d hl];exact hl
 ·simp[hl]
theorem nM:∀{ks':List (List Key)}{ds':List D}{ks:List (List Key)}{ds:List D},ks.length=ds.length→(bQ ks ds ks' ds').2.length≤ds.length+ds'.length
 |[],ds',ks,ds,_=>by show ds.length≤_;omega
 |_::_,[],ks,ds,_=>by show ds.length≤_;simp
 |k::ks',d::ds',ks,ds,hl=>by
  have h1:=nM (ks':=ks') (ds':=ds') (ks:=cW ks ds k) (ds:=b5 ks ds k d) (Cm hl)
  have h2:=Ck (k:=k) (d:=d) hl
  show (bQ (cW ks ds k) (b5 ks ds k d) ks' ds').2.length≤_
  rw[List.length_cons];omega
section
variable{X:Cx}{Xw:Nat→Hp→Prop}{o e f:Expr}{δ δo δe δf:DE}{pos p apos bp:Pos}{x:Str}{i:Nat}
def zQ(i:Nat)(δ:DE):DS:=fun ρ=>match wL ρ i with
 |some (.dct ks ds)=>δ ρ>>=fun d=>match CZ ks ds d with
  |some c'=>M.ret (.nx (ρ.set i (some (.ow c'))))
  |none=>M.stuck
 |_=>M.stuck
theorem Ho{td ty:TE}(hu:X.A.units+2<cLine)(ho:PE X o td)(he:PE X e ty)(m:M1 X o "update" apos e bp):
 PE X (.Call (.Attribute o "update" apos) [e] [] bp) (fun σ H Q=>td σ H fun x H1=>∃a,x= .ref a∧MM H1 a∧ty σ H1 fun y H2=>∃(b:Addr) (aw more:List (List Key×V)) (ks:List (List Int)),y= .ref b∧H2 a=some (.dT aw)∧Rd H2 b (.dT more)∧a≠b∧more.map (·.1)=ks.map nz∧(aw=[]→(ks.map c0).Nodup)∧aw.length+more.length≤sizeLine∧Q .non (upd H2 a (.dT (gQ aw more)))):=by
 intro pins s σ H Q I h
 refine wpAny_Call_method m.base m.few m.line PySem.F.plainAttrs_dict PySem.F.slot_dict_update (by rfl) (bS (ho pins s σ H _ I h) fun u s1 ⟨x,H1,I1,rx,a,ex,d,q1⟩=>?_)
 subst ex
 obtain rfl:u=Value.ref a:=rx
 obtain⟨t1,t2,_⟩:=GN I1 d
 refine⟨t1,t2,?_⟩
 rw[m.trees]
 refine Calls.callWith_builtin rfl (Calls.evalArgs_plain (Calls.spliced_cons (bS (he pins s1 σ H1 _ I1 q1) fun iv s2 ⟨y,H2,I2,ry,b,aw,more,ks,ey,k1,k2,k3,k4,k5,k6,q2⟩=>Calls.spliced_nil ?_)))
 subst ey
 obtain rfl:iv=Value.ref b:=ry
 exact AE hu I2 k1 k2 k3 k4 k5 k6 fun s3 I3=>⟨.non,_,I3,rfl,q2⟩
theorem EE(hu:X.A.units+64<cLine)(hv:PE X (.Name x p) (oU i))(he:PD X Xw e δ)(m:M1 X (.Name x p) "update" apos e bp)(hs:swapsWith (.Call (.Attribute (.Name x p) "update" apos) [e] [] bp) none pos.line X.env=pure false:=by rfl):
 iL X Xw (.Expr (.Call (.Attribute (.Name x p) "update" apos) [e] [] bp) pos) (zQ i δ):=fun F₀ H₀=>PS.weak (mJ (Ho (by omega) hv he m) hs) fun D σ H ⟨F,ρ,s,w⟩=>by
 unfold zQ at w
 split at w
 ·rename_i ks ds KD
  have hi:=qF KD
  obtain⟨v,L0,a,oh,rfl,hH,hF,vs,rfl,hd,hl,hz⟩:=s.st.den i _ hi
  refine⟨.ref a,L0,a,rfl, .inr ⟨_, .inl hH⟩,F,ρ,s.st,?_⟩
  rcases(δ ρ).cs with q | ⟨n,q⟩ | ⟨d,q⟩
  ·rw[q] at w;exact w.elim
  ·rw[q] at w⊢;exact fun F' H' e'=>w F' H' (s.ext.trans e')
  ·rw[q] at w⊢
   intro u H1 F1 e1 hq
   have w:WPS X.K Xw F₀ H₀ (match CZ ks ds d with | some c'=>M.ret (.nx (ρ.set i (some (.ow c')))) | none=>M.stuck) D:=w
   cases d with
   |dct ks' ds'=>
    obtain⟨b,ob,vs',rfl,k2,k3,k4,k5⟩:=hq
    cases hc:CZ ks ds (.dct ks' ds') with
    |none=>rw[hc] at w;exact w.elim
    |some c'=>
     rw[hc] at w
     have hc:(match eQ ks' with | some ns=>if ds.length+ds'.length≤lim∧(ks.isEmpty=true→(ns.map c0).Nodup) then some (C.dct (bQ ks ds ks' ds').1 (bQ ks ds ks' ds').2) else none | none=>none)=some c':=hc
     cases hn:eQ ks' with
     |none=>rw[hn] at hc;cases hc
     |some ns=>
      rw[hn] at hc
      have hc:(if ds.length+ds'.length≤lim∧(ks.isEmpty=true→(ns.map c0).Nodup) then some (C.dct (bQ ks ds ks' ds').1 (bQ ks ds ks' ds').2) else none)=some c':=hc
      split at hc
      ·rename_i IW
       cases hc
       have Ng:=DenL.mono e1.ff hd
       have l1:=Ng.len
       have l2:=k3.len
       have yY:a≠b:=fun z=>by
        have:=e1.old hH (fun _ z=>nomatch z)
        rw[hF,z,k2] at this
        cases this
       obtain⟨ws,m1,m2,m3⟩:=nL k3 k4 Ng hl
       refine⟨b,ks.zip vs,ks'.zip vs',ns,rfl,e1.hh _ _ hH, .inr ⟨ob,e1.fh _ _ k2⟩,yY,by rw[iJ (by rw[k4];exact l2),kB hn],fun z=>IW.2 ?_,?_,?_⟩
       ·have:=iJ (a:=ks) (b:=vs) (by rw[hl];exact l1)
        rw[z] at this
        rw[←this];rfl
       ·rw[List.length_zip,List.length_zip]
        have:=dB
        omega
       ·rw[m1]
        exact w σ F1 _ ((s.ext' e1).chg (c₀:= .dct (bQ ks ds ks' ds').1 (bQ ks ds ks' ds').2) hi L0 ⟨ws,rfl,m2,m3,by have:=nM (ks':=ks') (ds':=ds') hl;omega⟩)
      ·cases hc
   |_=>exact w.elim
 ·exact w.elim
end
section
variable{X:Cx}{Xw:Nat→Hp→Prop}{o e f:Expr}{δ δo δe δf:DE}{δs:DA}{pos p apos bp:Pos}{x:Str}{i:Nat}
end
section
variable{X:Cx}{Xw:Nat→Hp→Prop}{a b e HY:Expr}{δ δa δb δs:DE}{pos p2:Pos}
end
section
variable{prog:Program}{w:World}{A:Around}{E:Value→Shared→Prop}{s:Shared}
end
def v_:List Nat→Fb
 |[]=>IJ
 |i::is=>Fp (AZ i) (v_ is)
def w6:List Nat→List D→aX→aX
 |i::is,d::ds,ρ=>w6 is ds (ρ.set i (some (.fz d)))
 |_,_,ρ=>ρ
def qQ(is:List Nat):D→aX→Option aX
 | .tup ds,ρ=>if ds.length=is.length then some (w6 is ds ρ) else none
 |_,_=>none
theorem qW{K:W.Frag}{F₀ H₀ F H:Hp}{Q:St→Hp→Prop}:∀(is:List Nat) (ds:List D) (vs:List V) (σ:St) (ρ:aX),ds.length=is.length→StOk K F₀ H₀ F H σ ρ→DenL K F ds vs→(∀σ',StOk K F₀ H₀ F H σ' (w6 is ds ρ)→Q σ' H)→v_ is vs σ H Q
 |[],[],vs,σ,ρ,_,s,h,k=>⟨h,k σ s⟩
 |i::is,d::ds,vs,σ,ρ,hl,s,⟨v,r,e,h1,h2⟩,k=>by
  subst e
  exact⟨v,r,rfl,qW is ds r _ _ (by simpa using hl) (s.set h1) h2 k⟩
 |[],_::_,_,_,_,hl,_,_,_=>by simp at hl
 |_::_,[],_,_,_,hl,_,_,_=>by simp at hl
theorem yq{K:W.Frag}{is:List Nat}:Af K (IK K is.length (v_ is)) (qQ is):=fun F₀ H₀ F H σ ρ ρ' d v Q s q e k=>by
 unfold qQ at e
 split at e
 ·rename_i ds
  split at e
  ·rename_i hl
   cases e
   obtain⟨a,vs,rfl,hs,hd,_⟩:=q
   exact⟨a,vs,rfl,SqT.of (s.st.fh _ _ hs),by rw[←hd.len];exact hl,qW is ds vs σ ρ hl s hd k⟩
  ·cases e
 ·cases e
section
variable{prog:Program}{w:World}{A:Around}{E:Value→Shared→Prop}{s:Shared}
end
section
variable{prog:Program}{w:World}{A:Around}{E:Value→Shared→Prop}{s:Shared}
end
section
variable{X:Cx}{Xw:Nat→Hp→Prop}{a b e e2:Expr}{δa δb:DE}{δs:DA}{p pos:Pos}
end
mutual
def Fe:D→Bool
 | .non=>true
 | .bl _=>true
 | .int _=>true
 | .str _=>true
 | .tup ds=>t8 ds
 | .lst ds=>t8 ds
 | .raw _=>false
 | .exc _=>false
 | .scr _=>false
 | .dct _ _=>false
 | .dci _ _=>false
def t8:List D→Bool
 |[]=>true
 |d::ds=>Fe d&&t8 ds
end
def uU(ρ:aX):Bool:=ρ.all fun x=>match x with
 |some (.ow (.lst _))=>false
 |_=>true
theorem BM{ρ:aX}{i:Nat}{ds:List D}(h:uU ρ=true)(e:ρ[i]? =some (some (.ow (.lst ds)))):False:=by
 have:=List.all_eq_true.mp h _ (List.mem_of_getElem? e)
 cases this
section
variable{K:W.Frag}{F H F' H':Hp}{σ:St}{ρ:aX}{h:Heap}{b:Addr}
theorem OwnAt.dict(S:StE K F H σ ρ)(hd:uU ρ=true)(p:OwnAt σ ρ b):∃o,H b=some o∧((∃x,o= .dT x)∨∃x,o= .dK x):=by
 obtain⟨i,c,h1,h2⟩:=p
 obtain⟨v,h3,a,o,rfl,h4,h5,h6⟩:=S.den i _ h1
 rw[h3] at h2
 cases h2
 refine⟨o,h4,?_⟩
 cases c with
 |lst ds=>exact(BM hd h1).elim
 |dct ks ds=>obtain⟨vs,rfl,_⟩:=h6;exact .inl ⟨_,rfl⟩
 |dci ks ds=>obtain⟨vs,rfl,_⟩:=h6;exact .inr ⟨_,rfl⟩
open Classical in
theorem yf(S:StE K F H σ ρ)(hd:uU ρ=true)(E:Ext (fA σ ρ (refA h (OwnAt σ ρ) H) F) (refA h (OwnAt σ ρ) H) F' H'){a:Addr}{o:HO}(e:F' a=some o)(gN:∀q u,o≠ .frz q u):(if OwnAt σ ρ a then none else F' a)=some o:=by
 rw[if_neg,e]
 intro hp
 obtain⟨o',k1,k2⟩:=OwnAt.dict S hd hp
 have k3:fA σ ρ (refA h (OwnAt σ ρ) H) F a=some (mw ((h.get? a).getD {cls:= .none,data:= .fields #[]}) o'):=by
  unfold fA refA
  rw[if_pos hp,if_pos hp,k1]
  rfl
 have k4:=E.ff a _ k3
 rw[e] at k4
 rcases k2 with⟨x,rfl⟩ | ⟨x,rfl⟩<;>cases k4<;>exact gN _ _ rfl
open Classical in
mutual
theorem AG(S:StE K F H σ ρ)(hd:uU ρ=true)(E:Ext (fA σ ρ (refA h (OwnAt σ ρ) H) F) (refA h (OwnAt σ ρ) H) F' H'):∀{d:D}{v:V},Fe d=true→Den K F' d v→Den K (fun b=>if OwnAt σ ρ b then none else F' b) d v
 | .non,_,_,q=>q
 | .bl _,_,_,q=>q
 | .int _,_,_,q=>q
 | .str _,_,_,q=>q
 | .tup ds,_,f,⟨a,vs,h1,h2,h3,h4⟩=>⟨a,vs,h1,yf S hd E h2 (fun _ _ z=>nomatch z),kq S hd E f h3,h4⟩
 | .lst ds,_,f,⟨a,vs,h1,h2,h3,h4⟩=>⟨a,vs,h1,yf S hd E h2 (fun _ _ z=>nomatch z),kq S hd E f h3,h4⟩
 | .raw _,_,f,_=>by cases f
 | .exc _,_,f,_=>by cases f
 | .scr _,_,f,_=>by cases f
 | .dct _ _,_,f,_=>by cases f
 | .dci _ _,_,f,_=>by cases f
theorem kq(S:StE K F H σ ρ)(hd:uU ρ=true)(E:Ext (fA σ ρ (refA h (OwnAt σ ρ) H) F) (refA h (OwnAt σ ρ) H) F' H'):∀{ds:List D}{vs:List V},t8 ds=true→DenL K F' ds vs→DenL K (fun b=>if OwnAt σ ρ b then none else F' b) ds vs
 |[],_,_,q=>q
 |d::ds,_,f,⟨v,r,h1,h2,h3⟩=>by
  unfold t8 at f
  rw[Bool.and_eq_true] at f
  exact⟨v,r,h1,AG S hd E f.1 h2,kq S hd E f.2 h3⟩
end
end
section
variable{X:Cx}{Xw:Nat→Hp→Prop}{e:Expr}{δ:DE}
end
def FL(τ:DT):DT:=fun ρ=>noex (τ (Fo ρ))
section
variable{X:Cx}{Xw:Nat→Hp→Prop}{st:Stmt}{τ:DS}{is:List Nat}
end
section
variable{X:Cx}{Xw:Nat→Hp→Prop}{a b e o:Expr}{δ δa δb δo:DE}{δl:DA}{pos apos bp:Pos}
end
def wd(x:Int):List Int→List Int
 |[]=>[x]
 |y::r=>if x≤y then x::y::r else y::wd x r
def dq:List Int→List Int
 |[]=>[]
 |x::r=>wd x (dq r)
theorem kA(x:Int):∀l,(wd x l).Perm (x::l)
 |[]=>List.Perm.refl _
 |y::r=>by
  unfold wd
  split
  ·exact List.Perm.refl _
  ·exact((kA x r).cons y).trans (List.Perm.swap ..)
theorem d3:∀l,(dq l).Perm l
 |[]=>List.Perm.refl _
 |x::r=>(kA x (dq r)).trans ((d3 r).cons x)
theorem um{x:Int}:∀{l:List Int},l.Pairwise (· ≤ ·)→(wd x l).Pairwise (· ≤ ·)
 |[],_=>by simp[wd]
 |y::r,h=>by
  rw[List.pairwise_cons] at h
  unfold wd
  split
  ·rename_i hx
   refine List.pairwise_cons.mpr ⟨fun z hz=>?_,List.pairwise_cons.mpr h⟩
   rcases List.mem_cons.mp hz with rfl | hz
   ·exact hx
   ·exact Int.le_trans hx (h.1 z hz)
  ·rename_i hx
   refine List.pairwise_cons.mpr ⟨fun z hz=>?_,um h.2⟩
   rcases List.mem_cons.mp ((kA x r).mem_iff.mp hz) with rfl | hz
   ·omega
   ·exact h.1 z hz
theorem qZ:∀l,(dq l).Pairwise (· ≤ ·)
 |[]=>List.Pairwise.nil
 |x::r=>um (qZ r)
theorem yj:∀{a b:List Int},a.Perm b→a.Pairwise (· ≤ ·)→b.Pairwise (· ≤ ·)→a=b
 |[],b,h,_,_=>(List.nil_perm.mp h).symm
 |x::a,[],h,_,_=>absurd (List.perm_nil.mp h) (by simp)
 |x::a,y::b,h,h1,h2=>by
  rw[List.pairwise_cons] at h1 h2
  have e:x=y:=by
   have m1:x∈y::b:=h.mem_iff.mp (List.mem_cons_self ..)
   have m2:y∈x::a:=h.mem_iff.mpr (List.mem_cons_self ..)
   rcases List.mem_cons.mp m1 with z | z
   ·exact z
   ·rcases List.mem_cons.mp m2 with z' | z'
    ·exact z'.symm
    ·have:=h1.1 y z'
     have:=h2.1 x z
     omega
  subst e
  rw[yj (List.Perm.cons_inv h) h1.2 h2.2]
def q_:List D→M D
 |[.lst ds]=>match nums ds with
  |some ns=>if ns.length<64 then M.ret (.lst ((dq ns).map D.int)) else M.stuck
  |none=>M.stuck
 |_=>M.stuck
theorem ma:∀{us:List Value}{ns:List Int},IntsAre us ns→Vals (ns.map V.int) us
 |_,_, .nil=> .nil
 |_,_, .cons n t h=> .cons ⟨t,rfl⟩ (ma h)
def J4(K:W.Frag):List V→Hp→VK→Prop:=fun xs H Q=>∃p ns,xs=[.ref p]∧SqL K H p (ns.map V.int)∧ns.length<64∧∀q:Addr,H q=none→Q (.ref q) (upd H q (.lst ((dq ns).map V.int)))
section
variable{X:Cx}{Xw:Nat→Hp→Prop}{e:Expr}{δs:DA}{pos p:Pos}
theorem yP:CallR X (.builtin "sorted") (J4 X.K):=by
 intro pins s σ H xs us Q I r h
 obtain⟨a,ns,rfl,hq,hn,q⟩:=h
 obtain⟨u,rfl,r1⟩:=r.one
 cases (show u=_ from r1)
 obtain⟨aG,rv,pl,hz⟩:=I.list hq
 have hl:=rv.length
 rw[List.length_map] at hl
 have hi:IntsAre aG ns:=by simpa using intsAre_of rv
 refine sorted_ints pl.isList hi (by omega) fun out Pp h1 h2 h3=>?_
 have e:Pp=dq ns:=yj (h2.trans (d3 ns).symm) h3 (qZ ns)
 subst e
 obtain⟨c,hc⟩:=sortedAll_at s.heap aG out
 have Gn:H (s.heap.objs.size+1)=none:=I.hok.fresh (Nat.le_succ _)
 refine⟨.ref (s.heap.objs.size+1),_,I.laid (a:=s.heap.objs.size+1) (t':=s.toks) (o:= .lst ((dq ns).map V.int)) (fun b ob e=>sortedAll_old e) (Nat.le_succ _) ?_,rfl,q _ Gn⟩
 exact⟨by rw[List.length_map,(d3 ns).length_eq];have:=dB;unfold lim at this;omega,out.toList,c,ma h1,by simpa using hc⟩
theorem p0{K:W.Frag}{F:Hp}:∀{xs:List Int},DenL K F (xs.map D.int) (xs.map V.int)
 |[]=> .nil
 |x::r=> .cons rfl p0
theorem sE(hg:Gl X "sorted")(hm:X.mg "sorted"=none)(hb:bootBuiltins "sorted"=some (.builtin "sorted"))(ha:mC X Xw [e] δs)(he:starEach [e] X.env=[(false,eval e X.env)]:=by rfl):PD X Xw (.Call (.Name "sorted" p) [e] [] pos) (dA q_ δs):=
 dF yP (fun Xw F H vs ds Q s h w=>by
  unfold q_ at w
  split at w
  ·rename_i ds
   obtain⟨v,rfl,h1⟩:=h.one
   obtain⟨a,ws,rfl,h2,h3,h4⟩:=h1
   split at w
   ·rename_i ns H8
    split at w
    ·rename_i hok
     have e:=fK H8 h3
     subst e
     exact⟨a,ns,rfl,SqL.of (s _ _ h2),hok,fun q hq=>WP.fin w (Ext.lay s hq) ⟨q,_,rfl,aF,p0,by rw[List.length_map,(d3 ns).length_eq];unfold lim;omega⟩⟩
    ·exact w.elim
   ·exact w.elim
  ·exact w.elim) hg hm hb ha (by decide) (by decide) he rfl
end
section
variable{X:Cx}{Xw:Nat→Hp→Prop}{a b e o k v k' v':Expr}{δ δa δb δo δk δv δk' δv':DE}{δl δs:DA}{pos apos bp p:Pos}
end
section
variable{X:Cx}{Xw:Nat→Hp→Prop}{a b e:Expr}{δ δa δb:DE}{δs:DA}{pos p:Pos}
theorem oY:∀{xs:List V}{us:List Value},xs.length=us.length→(∀(i:Nat) x u,xs[i]? =some x→us[i]? =some u→RelV x u)→Vals xs us
 |[],[],_,_=> .nil
 |x::xs,u::us,hl,h=> .cons (h 0 x u rfl rfl) (oY (by simpa using hl) fun i y v e1 e2=>h (i+1) y v (by simpa using e1) (by simpa using e2))
end
end L3
namespace L3
open PySem PySem.SetTable
theorem qC{α:Type}[DecidableEq α]:∀{l U:List α},l.Nodup→(∀x∈l,x∈U)→l.length≤U.length
 |[],_,_,_=>Nat.zero_le _
 |a::l,U,hn,h=>by
  have ha:=h a (List.mem_cons_self ..)
  have y9:=List.nodup_cons.mp hn
  have:=qC (l:=l) (U:=U.erase a) y9.2 fun x hx=>(List.mem_erase_of_ne (fun e:x=a=>y9.1 (e▸hx))).mpr (h x (List.mem_cons_of_mem _ hx))
  rw[List.length_erase_of_mem ha] at this
  have:0<U.length:=List.length_pos_of_mem ha
  rw[List.length_cons]
  omega
def iK(m b:Nat):Nat→Nat×Nat
 |0=>(b % (m+1),b)
 |k+1=>leap m (iK m b k).1 (iK m b k).2
def Ih(m i:Nat):Nat:=(i*5+1) % (m+1)
def it(m:Nat):Nat→Nat→Nat
 |0,x=>x
 |n+1,x=>Ih m (it m n x)
theorem nv(m:Nat):∀a b x,it m (a+b) x=it m a (it m b x)
 |0,b,x=>by rw[Nat.zero_add];rfl
 |a+1,b,x=>by rw[Nat.add_right_comm];show Ih m _=Ih m _;rw[nv m a b x]
theorem Jr(m b:Nat):∀k,(iK m b k).2=b / 32 ^ k
 |0=>by simp[iK]
 |k+1=>by
  show (iK m b k).2 / 32=_
  rw[Jr m b k,Nat.div_div_eq_div_mul,Nat.pow_succ]
theorem xT{m b:Nat}(hb:b<2 ^ 64):∀k,(iK m b (k+13)).1=it m k (iK m b 13).1
 |0=>by rw[Nat.zero_add];rfl
 |k+1=>by
  rw[Nat.add_right_comm]
  have hq:(iK m b (k+13)).2 / 32=0:=by
   rw[Jr]
   refine Nat.div_eq_of_lt ?_
   refine Nat.lt_of_le_of_lt (m:=b / 32 ^ 13) ?_ ?_
   ·rw[Nat.pow_add,Nat.mul_comm,←Nat.div_div_eq_div_mul]
    exact Nat.div_le_self ..
   ·have:b / 32 ^ 13<1:=Nat.div_lt_of_lt_mul (by omega)
    omega
  show ((iK m b (k+13)).1*5+1+(iK m b (k+13)).2 / 32) % (m+1)=Ih m _
  rw[hq,xT hb k]
  rfl
def C5(m:Nat):Prop:=m=7∨m=31∨m=127
def Ml(m:Nat):Nat→Nat→List Nat
 |0,_=>[]
 |n+1,x=>x::Ml m n (Ih m x)
theorem wK(m:Nat):∀(n x j:Nat),j∈Ml m n x→∃a,a<n∧it m a x=j
 |0,x,j,h=>by cases h
 |n+1,x,j,h=>by
  rcases List.mem_cons.mp h with rfl | h
  ·exact⟨0,by omega,rfl⟩
  ·obtain⟨a,ha,e⟩:=wK m n (Ih m x) j h
   exact⟨a+1,by omega,by rw[nv m a 1 x];exact e⟩
theorem Ei{m:Nat}(hm:C5 m):(∀j,j<m+1→j∈Ml m (m+1) 0)∧it m (m+1) 0=0:=by
 rcases hm with rfl | rfl | rfl
 ·exact⟨by decide+kernel,by decide+kernel⟩
 ·exact⟨by decide+kernel,by decide+kernel⟩
 ·exact⟨by decide+kernel,by decide+kernel⟩
theorem NV{m:Nat}(hm:C5 m){i j:Nat}(hi:i<m+1)(hj:j<m+1):∃n,n≤m∧it m n i=j:=by
 obtain⟨h1,h2⟩:=Ei hm
 obtain⟨a,ha,rfl⟩:=wK m _ 0 i (h1 i hi)
 obtain⟨b,hb,rfl⟩:=wK m _ 0 j (h1 j hj)
 by_cases h:a≤b
 ·exact⟨b - a,by omega,by rw[←nv,Nat.sub_add_cancel h]⟩
 ·refine⟨m+1 - a+b,by omega,?_⟩
  rw[←nv,show m+1 - a+b+a=b+(m+1) by omega,nv,h2]
theorem Jq(m b k:Nat):(iK m b k).1<m+1:=by
 cases k with
 |zero=>exact Nat.mod_lt _ (by omega)
 |succ k=>exact Nat.mod_lt _ (by omega)
theorem reach{m b:Nat}(hm:C5 m)(hb:b<2 ^ 64){j:Nat}(hj:j<m+1):∃k,k≤m+13∧(iK m b k).1=j:=by
 obtain⟨n,hn,e⟩:=NV hm (Jq m b 13) hj
 exact⟨n+13,by omega,by rw[xT hb,e]⟩
theorem xE(h:Int):bits h<2 ^ 64:=by
 unfold bits
 have h1:=Int.emod_nonneg h (show (2 ^ 64:Int)≠0 by decide)
 have h2:=Int.emod_lt_of_pos h (show (0:Int)<2 ^ 64 by decide)
 omega
def C6(t:SetTable):Nat→Probe→Probe
 |0,p=>p
 |n+1,p=>C6 t n (t.advance p)
theorem yD(t:SetTable)(p:Probe):(t.advance p).dummy=p.dummy:=by
 unfold advance
 split<;>rfl
theorem rl(t:SetTable):∀a b p,C6 t (a+b) p=C6 t b (C6 t a p)
 |0,b,p=>by rw[Nat.zero_add];rfl
 |a+1,b,p=>by rw[Nat.add_right_comm];exact rl t a b _
def sK(m:Nat)(h:Int)(k:Nat):Probe:={j:=(iK m (bits h) k).1,more:=runEnd m (iK m (bits h) k).1 - (iK m (bits h) k).1,i:=(iK m (bits h) k).1,perturb:=(iK m (bits h) k).2,dummy:=none}
theorem HC(m i:Nat):runEnd m i - i≤9:=by
 unfold runEnd
 split<;>omega
theorem Al(t:SetTable):∀(n:Nat) (p:Probe),n≤p.more→C6 t n p={p with j:=p.j+n,more:=p.more - n}
 |0,p,_=>rfl
 |n+1,p,h=>by
  show C6 t n (t.advance p)=_
  have e:t.advance p={p with j:=p.j+1,more:=p.more - 1}:=by unfold advance;rw[if_pos (by omega)]
  rw[e,Al t n _ (by show n≤p.more - 1;omega)]
  show ({j:=p.j+1+n,more:=p.more - 1 - n,i:=p.i,perturb:=p.perturb,dummy:=p.dummy}:Probe)=_
  rw[Nat.add_assoc,Nat.add_comm 1 n,Nat.sub_sub,Nat.add_comm 1 n]
theorem Am{t:SetTable}{h:Int}{k:Nat}:C6 t ((sK t.mask h k).more+1) (sK t.mask h k)=sK t.mask h (k+1):=by
 rw[rl,Al t _ _ (Nat.le_refl _)]
 show t.advance _=_
 unfold advance
 rw[if_neg (show¬(sK t.mask h k).more - (sK t.mask h k).more>0 by rw[Nat.sub_self];exact Nat.lt_irrefl 0)]
 rfl
theorem An{t:SetTable}{h:Int}:∀k,∃n,n≤10*k∧C6 t n (t.probeStart h)=sK t.mask h k
 |0=>⟨0,Nat.zero_le _,rfl⟩
 |k+1=>by
  obtain⟨n,hn,e⟩:=An (t:=t) (h:=h) k
  have:=HC t.mask (iK t.mask (bits h) k).1
  refine⟨n+((sK t.mask h k).more+1),?_,by rw[rl,e,Am]⟩
  show n+(runEnd t.mask (iK t.mask (bits h) k).1 - (iK t.mask (bits h) k).1+1)≤_
  omega
theorem xN{t:SetTable}{hashAt:Nat→Int}{h:Int}(hd:∀j,t.slot j≠ .dummy)(hh:∀j i,t.slot j= .live i→(hashAt i==h)=false):
 ∀(n fuel:Nat) (p:Probe),n<fuel→p.dummy=none→t.slot (C6 t n p).j= .empty→∃j,probe.go t hashAt h fuel p=some (.empty j none)∧t.slot j= .empty
 |n,0,p,hn,_,_=>absurd hn (by omega)
 |n,fuel+1,p,hn,hp,he=>by
  unfold probe.go
  cases hs:t.slot p.j with
  |empty=>exact⟨p.j,by rw[hp],hs⟩
  |dummy=>exact absurd hs (hd _)
  |live i=>
   dsimp only
   rw[hh p.j i hs]
   cases n with
   |zero=>rw[show (C6 t 0 p).j=p.j from rfl,hs] at he;cases he
   |succ n=>
    have:=xN hd hh n fuel (t.advance p) (by omega) (by rw[yD];exact hp) he
    simpa using this
theorem qY{t:SetTable}{j i:Nat}(h:t.slot j= .live i):t.place[i]? =some j:=by
 unfold slot at h
 dsimp only at h
 split at h
 ·rename_i e
  cases h
  exact eq_of_beq e
 ·split at h<;>cases h
theorem j9{t:SetTable}(hd:t.dummies= #[])(j:Nat):t.slot j≠ .dummy:=by
 unfold slot
 dsimp only
 split
 ·exact fun z=>by cases z
 ·split
  ·rename_i e
   rw[hd] at e
   unfold has at e
   simp at e
  ·exact fun z=>by cases z
theorem w_{t:SetTable}(hd:t.dummies= #[])(hp:t.place.size≤t.mask):∃j,j<t.mask+1∧t.slot j= .empty:=by
 apply Classical.byContradiction
 intro nj
 have:∀j∈List.range (t.mask+1),j∈t.place.toList:=fun j hj=>by
  cases hs:t.slot j with
  |empty=>exact absurd ⟨j,List.mem_range.mp hj,hs⟩ nj
  |dummy=>exact absurd hs (j9 hd j)
  |live i=>exact List.mem_of_getElem? ((Array.getElem?_toList ..).trans (qY hs))
 have:=qC List.nodup_range this
 rw[List.length_range,Array.length_toList] at this
 omega
theorem wU{t:SetTable}{hashAt:Nat→Int}{h:Int}(hm:C5 t.mask)(hd:t.dummies= #[])(hp:t.place.size≤t.mask)(hh:∀i,i<t.place.size→(hashAt i==h)=false):
 ∃j,t.probe hashAt h (t.probeStart h)=some (.empty j none)∧t.slot j= .empty:=by
 obtain⟨j,hj,he⟩:=w_ hd hp
 obtain⟨k,hk,e⟩:=reach hm (xE h) hj
 obtain⟨n,hn,ea⟩:=An (t:=t) (h:=h) k
 refine xN (j9 hd) (fun j i hs=>hh i ?_) n _ _ (by unfold turns;omega) rfl (by rw[ea];show t.slot (iK t.mask (bits h) k).1=_;rw[e];exact he)
 obtain⟨hi,_⟩:=Array.getElem?_eq_some_iff.mp (qY hs)
 exact hi
def vals(o:Array (Option Nat))(n:Nat):List Nat:=(List.range n).filterMap fun j=>o.getD j none
theorem AS{α β:Type}[DecidableEq α]{f g:α→Option β}{a:α}{b:β}(h0:f a=none)(h1:g a=some b):∀{l:List α},l.Nodup→a∈l→(∀x∈l,x≠a→g x=f x)→(l.filterMap g).Perm (b::l.filterMap f)
 |[],_,h,_=>by cases h
 |x::l,hn,h,hg=>by
  have y9:=List.nodup_cons.mp hn
  by_cases e:x=a
  ·subst e
   rw[List.filterMap_cons_some h1,List.filterMap_cons_none h0]
   have:l.filterMap g=l.filterMap f:=jo fun y hy=>hg y (List.mem_cons_of_mem _ hy) fun z=>y9.1 (z▸hy)
   rw[this]
  ·have ih:=AS h0 h1 y9.2 ((List.mem_cons.mp h).resolve_left fun z=>e z.symm) fun y hy=>hg y (List.mem_cons_of_mem _ hy)
   have hx:=hg x (List.mem_cons_self ..) e
   cases hf:f x with
   |none=>rw[List.filterMap_cons_none (hx.trans hf),List.filterMap_cons_none hf];exact ih
   |some y=>rw[List.filterMap_cons_some (hx.trans hf),List.filterMap_cons_some hf];exact(ih.cons y).trans (List.Perm.swap ..)
theorem qa{m:Nat}{o:Array (Option Nat)}{b:Nat}:∀(n fuel k:Nat),n<fuel→(o.getD (iK m b (k+n)).1 (some 0)).isNone=true→∃j,layClean.free m o fuel (iK m b k).1 (iK m b k).2=some j∧(o.getD j (some 0)).isNone=true
 |n,0,k,h,_=>absurd h (by omega)
 |n,fuel+1,k,h,he=>by
  unfold layClean.free
  cases hf:(List.range (runEnd m (iK m b k).1+1 - (iK m b k).1)).find? fun q=>(o.getD ((iK m b k).1+q) (some 0)).isNone with
  |some q=>exact⟨_,rfl,List.find?_some (p:=fun q=>(o.getD ((iK m b k).1+q) (some 0)).isNone) hf⟩
  |none=>
   cases n with
   |zero=>
    have:=List.find?_eq_none.mp hf 0 (List.mem_range.mpr (by unfold runEnd;split<;>omega))
    rw[Nat.add_zero] at this he
    exact absurd he this
   |succ n=>
    exact qa n fuel (k+1) (by omega) (by rw[Nat.add_right_comm];exact he)
theorem wg{o:Array (Option Nat)}{j:Nat}(h:(o.getD j (some 0)).isNone=true):j<o.size∧o[j]? =some none:=by
 rw[Array.getD_eq_getD_getElem?] at h
 cases e:o[j]? with
 |none=>rw[e] at h;cases h
 |some v=>
  rw[e] at h
  cases v with
  |none=>exact⟨(Array.getElem?_eq_some_iff.mp e).1,rfl⟩
  |some v=>cases h
theorem Bq{m:Nat}(hm:C5 m){o:Array (Option Nat)}{h:Int}{k:Nat}(hs:o.size=m+1)(hp:(vals o (m+1)).Perm (List.range k))(hk:k≤m):
 ∃j,layClean.free m o (turns m) (bits h % (m+1)) (bits h)=some j∧(o.setIfInBounds j (some k)).size=m+1∧(vals (o.setIfInBounds j (some k)) (m+1)).Perm (List.range (k+1)):=by
 obtain⟨j0,OI,Ky⟩:∃j,j<m+1∧o.getD j none=none:=by
  apply Classical.byContradiction
  intro nj
  have all:∀l:List Nat,(∀j∈l,j<m+1)→(l.filterMap fun j=>o.getD j none).length=l.length:=by
   intro l
   induction l with
   |nil=>exact fun _=>rfl
   |cons a l ih=>
    intro h
    cases e:o.getD a none with
    |none=>exact absurd ⟨a,h a (List.mem_cons_self ..),e⟩ nj
    |some v=>rw[List.filterMap_cons_some (f:=fun j=>o.getD j none) e,List.length_cons,List.length_cons,ih fun j hj=>h j (List.mem_cons_of_mem _ hj)]
  have h1:=hp.length_eq
  rw[vals,all _ fun j hj=>List.mem_range.mp hj,List.length_range,List.length_range] at h1
  omega
 have Ov:(o.getD j0 (some 0)).isNone=true:=by
  rw[Array.getD_eq_getD_getElem?] at Ky⊢
  rw[Array.getElem?_eq_getElem (by omega)] at Ky⊢
  rw[Option.getD_some] at Ky⊢
  rw[Ky]
  rfl
 obtain⟨q,hq,e⟩:=reach hm (xE h) OI
 obtain⟨j,ej,hj⟩:=qa (m:=m) (o:=o) (b:=bits h) q (turns m) 0 (by unfold turns;omega) (by rw[Nat.zero_add,e];exact Ov)
 obtain⟨d5,A4⟩:=wg hj
 refine⟨j,ej,by rw[Array.size_setIfInBounds];exact hs,?_⟩
 have hP:=AS (f:=fun i=>o.getD i none) (g:=fun i=>(o.setIfInBounds j (some k)).getD i none) (a:=j) (b:=k) (by
  show o.getD j none=none
  rw[Array.getD_eq_getD_getElem?,A4]
  rfl) (by
  show (o.setIfInBounds j (some k)).getD j none=some k
  rw[Array.getD_eq_getD_getElem?,Array.getElem?_setIfInBounds_self_of_lt d5]
  rfl) (l:=List.range (m+1)) List.nodup_range (List.mem_range.mpr (by omega)) fun x _ hx=>by
  show (o.setIfInBounds j (some k)).getD x none=o.getD x none
  rw[Array.getD_eq_getD_getElem?,Array.getD_eq_getD_getElem?,Array.getElem?_setIfInBounds_ne (fun z=>hx z.symm)]
 refine hP.trans ((hp.cons k).trans ?_)
 rw[List.range_succ (n:=k)]
 exact List.perm_append_comm (l₁:=[k])
theorem xY{m:Nat}(hm:C5 m):∀(hs:List Int) (o:Array (Option Nat)) (k:Nat),o.size=m+1→(vals o (m+1)).Perm (List.range k)→k+hs.length≤m→
 ∃o',(hs.foldl (init:=some (o,k)) fun acc h=>do
  let (owner,k)←acc
  let j←layClean.free m owner (turns m) (bits h % (m+1)) (bits h)
  pure (owner.setIfInBounds j (some k),k+1))=some (o',k+hs.length)∧(vals o' (m+1)).Perm (List.range (k+hs.length))
 |[],o,k,h1,h2,h3=>⟨o,rfl,h2⟩
 |h::hs,o,k,h1,h2,h3=>by
  rw[List.length_cons] at h3
  obtain⟨j,ej,e1,e2⟩:=Bq hm (h:=h) h1 h2 (by omega)
  obtain⟨o',e3,e4⟩:=xY hm hs _ (k+1) e1 e2 (by omega)
  rw[List.length_cons,show k+(hs.length+1)=k+1+hs.length by omega]
  refine⟨o',?_,e4⟩
  rw[List.foldl_cons,←e3]
  congr 1
  show (layClean.free m o (turns m) (bits h % (m+1)) (bits h)>>=_)=_
  rw[ej]
  rfl
theorem xk(m:Nat):vals (Array.replicate (m+1) none) (m+1)=[]:=by
 unfold vals
 refine List.filterMap_eq_nil_iff.mpr fun j hj=>?_
 rw[Array.getD_eq_getD_getElem?,Array.getElem?_replicate]
 split<;>rfl
theorem D2{m f mv:Nat}{led pl:Bool}(hm:C5 m){hs:Array Int}(hl:hs.size≤m):
 ∃t order,laid m f mv led pl hs=some (t,order)∧t.mask=m∧t.dummies= #[]∧t.place.size=hs.size∧order.toList.Perm (List.range hs.size)∧t.plain=pl∧t.led=led∧t.place.toList.Pairwise (· < ·):=by
 obtain⟨o,e1,e2⟩:=xY hm hs.toList (Array.replicate (m+1) none) 0 (by simp) (by rw[xk];exact .refl _) (by rw[Nat.zero_add,Array.length_toList];exact hl)
 rw[Nat.zero_add,Array.length_toList] at e1 e2
 have e3:layClean m hs=some o:=by
  unfold layClean
  rw[←Array.foldl_toList,e1]
  rfl
 have e4:((List.range (m+1)).filterMap fun j=>(o.getD j none).map (j,·)).map (·.2)=vals o (m+1):=by
  unfold vals
  rw[List.map_filterMap]
  refine jo fun j _=>?_
  cases o.getD j none<;>rfl
 refine⟨_,_,by unfold laid;rw[e3];rfl,rfl,rfl,?_,?_,rfl,rfl,?_⟩
 ·show ((((List.range (m+1)).filterMap fun j=>(o.getD j none).map (j,·)).map (·.1)).toArray).size=_
  rw[List.size_toArray,List.length_map,←List.length_map (f:=(·.2)),e4,e2.length_eq,List.length_range]
 ·show ((((List.range (m+1)).filterMap fun j=>(o.getD j none).map (j,·)).map (·.2)).toArray).toList.Perm _
  rw[e4]
  exact e2
 ·show ((((List.range (m+1)).filterMap fun j=>(o.getD j none).map (j,·)).map (·.1)).toArray).toList.Pairwise (· < ·)
  have:∀l:List Nat,((l.filterMap fun j=>(o.getD j none).map (j,·)).map (·.1)).Sublist l:=by
   intro l
   induction l with
   |nil=>exact .slnil
   |cons a l ih=>
    cases e:o.getD a none with
    |none=>rw[List.filterMap_cons_none (f:=fun j=>(o.getD j none).map (j,·)) (by show (o.getD a none).map (a,·)=none;rw[e];rfl)];exact ih.cons a
    |some v=>rw[List.filterMap_cons_some (f:=fun j=>(o.getD j none).map (j,·)) (b:=(a,v)) (by show (o.getD a none).map (a,·)=some (a,v);rw[e];rfl)];exact ih.cons₂ a
  exact List.Pairwise.sublist (this _) List.pairwise_lt_range
theorem mQ{xs:Array Nat}(hs:xs.toList.Pairwise (· < ·)){j:Nat}:∀(fuel lo hi:Nat),lo≤hi→hi≤xs.size→hi - lo≤fuel→(∀i (h:i<xs.size),i<lo→xs[i]<j)→(∀i (h:i<xs.size),hi≤i→j≤xs[i])→
 below.go xs j fuel lo hi≤xs.size∧(∀i (h:i<xs.size),i<below.go xs j fuel lo hi→xs[i]<j)∧∀i (h:i<xs.size),below.go xs j fuel lo hi≤i→j≤xs[i]
 |0,lo,hi,h1,h2,h3,h4,h5=>by
  have:lo=hi:=by omega
  subst this
  exact⟨h2,h4,h5⟩
 |fuel+1,lo,hi,h1,h2,h3,h4,h5=>by
  have mono:∀i k (hk:k<xs.size) (h:i<k),xs[i]'(by omega)<xs[k]:=fun i k hk h=>by
   have:=List.pairwise_iff_getElem.mp hs i k (by simpa using (by omega:i<xs.size)) (by simpa using hk) h
   simpa using this
  unfold below.go
  by_cases d5:lo<hi
  ·rw[if_pos d5]
   dsimp only
   have hm:(lo+hi) / 2<xs.size:=by omega
   have hg:xs.getD ((lo+hi) / 2) j=xs[(lo+hi) / 2]:=by rw[Array.getD_eq_getD_getElem?,Array.getElem?_eq_getElem hm];rfl
   rw[hg]
   by_cases hc:xs[(lo+hi) / 2]<j
   ·rw[if_pos hc]
    refine mQ hs fuel _ hi (by omega) h2 (by omega) (fun i h pA=>?_) h5
    by_cases e:i=(lo+hi) / 2
    ·subst e;exact hc
    ·exact Nat.lt_trans (mono i _ hm (by omega)) hc
   ·rw[if_neg hc]
    refine mQ hs fuel lo _ (by omega) (by omega) (by omega) h4 fun i h pA=>?_
    by_cases e:i=(lo+hi) / 2
    ·subst e;omega
    ·have:=mono _ i h (by omega:(lo+hi) / 2<i)
     omega
  ·rw[if_neg d5]
   have:lo=hi:=by omega
   subst this
   exact⟨h2,h4,h5⟩
theorem mR{xs:Array Nat}(hs:xs.toList.Pairwise (· < ·))(j:Nat):below xs j≤xs.size∧(∀i (h:i<xs.size),i<below xs j→xs[i]<j)∧∀i (h:i<xs.size),below xs j≤i→j≤xs[i]:=
 mQ hs xs.size 0 xs.size (Nat.zero_le _) (Nat.le_refl _) (by omega) (fun i h hi=>absurd hi (by omega)) fun i h hi=>absurd h (by omega)
theorem Cs{t:SetTable}{j:Nat}(hs:t.place.toList.Pairwise (· < ·))(h:t.slot j= .empty):(insertAt t.place (below t.place j) j).toList.Pairwise (· < ·):=by
 obtain⟨h1,h2,h3⟩:=mR hs j
 have gN:t.place[below t.place j]? ≠some j:=fun z=>by
  unfold slot at h
  dsimp only at h
  rw[z,beq_self_eq_true] at h
  cases h
 rw[toList_insertAt]
 have uk:=hs
 rw[←List.take_append_drop (below t.place j) t.place.toList,List.pairwise_append] at uk
 obtain⟨q1,q2,q3⟩:=uk
 have lo:∀a∈t.place.toList.take (below t.place j),a<j:=fun a ha=>by
  obtain⟨i,hi,e⟩:=List.mem_take_iff_getElem.mp ha
  have pA:i<t.place.size:=by simp at hi;omega
  have:=h2 i pA (by omega)
  rw[←e]
  simpa using this
 have hi:∀a∈t.place.toList.drop (below t.place j),j<a:=fun a ha=>by
  obtain⟨i,hi,e⟩:=List.mem_drop_iff_getElem.mp ha
  have pA:below t.place j+i<t.place.size:=by
   have:i+below t.place j<t.place.size:=by simpa using hi
   omega
  have:=h3 _ pA (by omega)
  have e':t.place[below t.place j+i]=a:=by simpa using e
  rw[e'] at this
  refine Nat.lt_of_le_of_ne this fun z=>?_
  subst z
  by_cases i0:i=0
  ·subst i0
   refine gN ?_
   rw[Array.getElem?_eq_getElem (by simpa using pA)]
   exact congrArg some (by simpa using e')
  ·have h0:below t.place j<t.place.size:=by omega
   have m1:=h3 _ h0 (Nat.le_refl _)
   have m2:=List.pairwise_iff_getElem.mp hs (below t.place j) (below t.place j+i) (by simpa using h0) (by simpa using pA) (by omega)
   have m2:t.place[below t.place j]<t.place[below t.place j+i]:=by simpa using m2
   omega
 refine List.pairwise_append.mpr ⟨q1,List.pairwise_cons.mpr ⟨hi,q2⟩,fun a ha b hb=>?_⟩
 rcases List.mem_cons.mp hb with rfl | hb
 ·exact lo a ha
 ·exact q3 a ha b hb
def slotAt(xs:Array Nat):Nat→Nat
 |0=>0
 |k+1=>xs.getD k 0+1
theorem below_at{xs:Array Nat}(hs:xs.toList.Pairwise (· < ·)):∀{k:Nat},k≤xs.size→below xs (slotAt xs k)=k
 |0,_=>by
  obtain⟨h1,h2,_⟩:=mR hs 0
  show below xs 0=0
  cases e:below xs 0 with
  |zero=>rfl
  |succ p=>
   rw[e] at h1 h2
   exact absurd (h2 0 (by omega) (by omega)) (by omega)
 |k+1,hk=>by
  have hg:xs.getD k 0=xs[k]:=by rw[Array.getD_eq_getD_getElem?,Array.getElem?_eq_getElem (by omega)];rfl
  show below xs (xs.getD k 0+1)=k+1
  rw[hg]
  obtain⟨h1,h2,h3⟩:=mR hs (xs[k]+1)
  have a1:¬below xs (xs[k]+1)≤k:=fun z=>by have:=h3 k (by omega) z;omega
  have a2:¬k+1<below xs (xs[k]+1):=fun z=>by
   have d5:k+1<xs.size:=by omega
   have m1:=h2 (k+1) d5 z
   have m2:=List.pairwise_iff_getElem.mp hs k (k+1) (by simpa using (by omega:k<xs.size)) (by simpa using d5) (by omega)
   have m2:xs[k]<xs[k+1]:=by simpa using m2
   omega
  omega
structure TabOk (t:SetTable) (n:Nat) (ld:Bool):Prop where
 Qd:C5 t.mask
 size:t.place.size=n
 dum:t.dummies= #[]
 room:5*n<3*t.mask
 plain:t.plain=true
 led:t.led=ld
 rise:t.place.toList.Pairwise (· < ·)
theorem TabOk.fits{t:SetTable}{n:Nat}{ld:Bool}(h:TabOk t n ld):t.fits n=true:=by
 unfold SetTable.fits fill
 rw[h.dum,h.size]
 have:=h.room
 simp
 omega
def SetH(ld:Bool)(h:Heap)(a:Addr)(xs:List (Int×Value)):Prop:=∃o es ep t,h.get? a=some o∧o.ExactSet∧o.data= .set es ep t∧es.toList.Perm xs∧TabOk t es.size ld
theorem iX{α:Type}(xs:Array α)(p:Nat)(x:α):(insertAt xs p x).size=xs.size+1:=by
 have:=(insertAt_perm xs p x).length_eq
 simpa using this
section
variable{prog:Program}{w:World}{A:Around}{E:Value→Shared→Prop}{s:Shared}
theorem jv{ks:List Int}{b:Addr}{Q:Bool→Shared→Prop}(hk:IsTupleKey (intKind prog w) s.heap ks b)(h:Q true s):wpAny (model prog w) A (hashByValue 8 (.ref b)) Q E s:=by
 have hT:=hk.typeIs
 obtain⟨o,items,n,ho,_,hd,hi⟩:=hk
 unfold hashByValue
 refine wpAny_bind (wpAny_specialOf hT F.slot_tuple_hash.lookup ?_)
 dsimp only
 refine wpAny_bind (wpAny_seqItems ho hd ?_)
 refine wpAny_bind ?_
 show wpAny _ _ (forIn items _ _) _ _ s
 rw[←Array.forIn_toList]
 refine wpAny_forIn_list _ (fun rest r s'=>r.1=none∧s'=s∧∃ks',ItemsAre (intKind prog w) ks' rest) _ ?_ ?_ _ _ ⟨rfl,rfl,ks,hi⟩
 ·rintro v rest r s' ⟨hr,rfl,ks',hl⟩
  cases hl with
  | @cons k v Pm vs h1 h2=>
    have hv:hashByValue 7 v=pure true:=by
     cases v<;>first | rfl | (exact absurd h1 (by simp[intKind,Value.isInt]))
    rw[hv]
    refine wpAny_bind (wpAny_pure ?_)
    simp only[Bool.not_true,Bool.false_eq_true,if_false]
    exact wpAny_pure ⟨rfl,rfl,_,h2⟩
 ·rintro⟨r1,r2⟩ s' ⟨hr,rfl,_⟩
  simp only at hr
  subst hr
  exact wpAny_pure h
theorem pM{a b:Addr}{hk:Int}{o:Obj}{es:Array (Int×Value)}{ep:Nat}{t:SetTable}{Q:SetFound→Shared→Prop}(ho:s.heap.get? a=some o)(hd:o.data= .set es ep t){ld:Bool}(ht:TabOk t es.size ld)(Gv:∀e∈es.toList,e.1≠hk)
 (h:∀j,t.slot j= .empty→Q (.free j false) s):wpAny (model prog w) A (setSearch a (.ref b) hk true) Q E s:=by
 have hf:=ht.fits
 obtain⟨hm,nk,Lw,h5,_,_,_⟩:=ht
 have OE:t.gaveWay=false:=by
  unfold SetTable.gaveWay
  rcases hm with e | e | e<;>rw[e]<;>rfl
 obtain⟨j,ej,hj⟩:=wU (t:=t) (hashAt:=fun i=>(es[i]?.map (·.1)).getD 0) (h:=hk) hm Lw (by omega) fun i hi=>by
  rw[Array.getElem?_eq_getElem (by omega)]
  refine beq_eq_false_iff_ne.mpr fun z=>Gv (es[i]'(by omega)) (by rw[←Array.getElem_toList];exact List.getElem_mem _) z
 unfold setSearch setSearchFrom
 refine wpAny_bind (wpAny_setState_of ho hd hf ?_)
 dsimp only
 rw[OE]
 simp only[Bool.false_eq_true,↓reduceIte]
 refine wpAny_bind (wpAny_pure ?_)
 split
 ·rename_i met heq
  have e:met= .empty j none:=Option.some.inj (heq.symm.trans ej)
  subst e
  exact wpAny_pure (h j hj)
 ·rename_i nj
  exact absurd ej (nj _)
theorem vn{a:Addr}{o:Obj}{es:Array (Int×Value)}{ep n:Nat}{t:SetTable}{Q:Unit→Shared→Prop}(ho:s.heap.get? a=some o)(hex:o.ExactSet)(hd:o.data= .set es ep t)(hf:t.fits es.size=true)(LU:t.plain=true)(hm:C5 (sizeAbove n - 1))(h5:5*es.size<3*(sizeAbove n - 1))
 (h:∀h',Heap.SameBut a s.heap h'→SetH t.led h' a es.toList→Q () {s with heap:=h'}):wpAny (model prog w) A (setRelay a n) Q E s:=by
 obtain⟨t',order,e1,e2,e3,e4,e5,e6,e7,e8⟩:=D2 (m:=sizeAbove n - 1) (f:=t.finger) (mv:=t.movedTo (sizeAbove n - 1)) (led:=t.led) (pl:=t.plain) hm (hs:=es.map (·.1)) (by rw[Array.size_map];omega)
 rw[Array.size_map] at e4 e5
 have xQ:(order.filterMap (es[·]?)).toList.Perm es.toList:=by
  rw[Array.toList_filterMap]
  have:=e5.filterMap (fun i=>es[i]?)
  rwa [filterMap_getElem?_range] at this
 have hsz:(order.filterMap (es[·]?)).size=es.size:=by rw[←Array.length_toList,xQ.length_eq,Array.length_toList]
 have Oo:sizeAbove n≤128:=by rcases hm with e | e | e<;>omega
 unfold setRelay
 refine wpAny_bind (wpAny_setState_of ho hd hf ?_)
 dsimp only
 rw[if_neg (by rw[sizeLine_eq];omega)]
 have hr:t.relaid (es.map (·.1)) n=some (t',order):=e1
 rw[hr]
 refine wpAny_bind (wpAny_of_eq (a:=(order.filterMap (es[·]?),t')) ?_ ?_)
 ·show (if ((order.filterMap (es[·]?)).size !=es.size)=true then(do (unsupported "internal:set-table-lost-an-element":Sem PUnit);pure (order.filterMap (es[·]?),t')) else pure (order.filterMap (es[·]?),t'))=_
  rw[hsz,bne_self_eq_false]
  rfl
 ·dsimp only
  refine wpAny_storeSet_of ho hd (h _ (Heap.SameBut.update ..) ?_) (by rw[hsz,sizeLine_eq];rcases hm with e | e | e<;>omega)
  have hg:(s.heap.update a (Obj.putSet (order.filterMap (es[·]?)) t')).get? a=some {o with data:= .set (order.filterMap (es[·]?)) (ep+1) t'}:=by
   have:=Heap.get?_update_self (Obj.putSet (order.filterMap (es[·]?)) t') ho (by rw[putSet_of _ t' hd];rfl)
   rw[putSet_of _ t' hd] at this;exact this
  exact⟨_,_,ep+1,t',hg,hex,rfl,xQ,by rw[e2];exact hm,by rw[hsz];exact e4,e3,by rw[hsz,e2];exact h5,e6.trans LU,e7,e8⟩
theorem Df:sizeAbove (grown 5)=32:=by decide
theorem Ah:sizeAbove (grown 19)=128:=by decide
theorem j8{a b:Addr}{ks:List Int}{hk:Int}{ld:Bool}{xs:List (Int×Value)}{Q:Bool→Shared→Prop}(y8:IsTupleKey (intKind prog w) s.heap ks b)(hS:SetH ld s.heap a xs)(Gv:hk∉xs.map (·.1))(hl:xs.length<64)
 (h:∀h',Heap.SameBut a s.heap h'→SetH ld h' a (xs++[(hk, .ref b)])→Q true {s with heap:=h'}):wpAny (model prog w) A (setAddHashed a (.ref b) hk) Q E s:=by
 obtain⟨o,es,ep,t,ho,hex,hd,hp,ht⟩:=hS
 have hf:=ht.fits
 have hsz:es.size=xs.length:=by rw[←Array.length_toList,hp.length_eq]
 unfold setAddHashed setAddHashedIn
 refine wpAny_holding (wpAny_bind (wpAny_setState_of ho hd hf ?_))
 dsimp only
 have Oq:byScan (.ref b) es=false:=rfl
 rw[Oq]
 simp only[Bool.false_eq_true,↓reduceIte]
 refine wpAny_bind (pM ho hd ht (fun e he z=>Gv (List.mem_map.mpr ⟨e,hp.mem_iff.mp he,z⟩)) fun j Gm=>?_)
 obtain⟨hm,nk,Lw,h5,LU,Gq,O0⟩:=ht
 dsimp only
 refine wpAny_bind (wpAny_setState_of ho hd hf ?_)
 dsimp only
 have GD:(t.put j).1.mask=t.mask∧(t.put j).1.place.size=es.size+1∧(t.put j).1.dummies= #[]∧(t.put j).1.plain=true∧(t.put j).1.led=ld∧(t.put j).1.place.toList.Pairwise (· < ·):=by
  refine⟨rfl,?_,?_,LU,Gq,Cs O0 Gm⟩
  ·show (insertAt t.place (below t.place j) j).size=_
   rw[iX,nk]
  ·show (if has t.dummies j then eraseAt t.dummies (below t.dummies j) else t.dummies)= #[]
   rw[Lw]
   rfl
 have fin:wpAny (model prog w) A (do
  storeSet a (insertAt es (t.put j).2 (hk, .ref b)) (t.put j).1
  if (!false&&(t.put j).1.tooFull)=true then do
      setRelay a (grown (es.size+1))
      pure true
   else pure true) Q E s:=by
  obtain⟨q1,q2,q3,q4,q5,q6⟩:=GD
  generalize (t.put j).1=t1 at q1 q2 q3 q4 q5 q6
  have Jk:=iX es (t.put j).2 (hk,Value.ref b)
  have LR:(insertAt es (t.put j).2 (hk,Value.ref b)).toList.Perm (xs++[(hk, .ref b)]):=by
   refine(insertAt_perm es _ _).trans ?_
   rw[Array.toList_push]
   exact hp.append_right _
  generalize insertAt es (t.put j).2 (hk,Value.ref b)=Fj at Jk LR
  have hg:(s.heap.update a (Obj.putSet Fj t1)).get? a=some {o with data:= .set Fj (ep+1) t1}:=by
   have:=Heap.get?_update_self (Obj.putSet Fj t1) ho (by rw[putSet_of _ t1 hd];rfl)
   rw[putSet_of _ t1 hd] at this;exact this
  have xR:=Heap.SameBut.update s.heap a (Obj.putSet Fj t1)
  have P7:t.mask≤127:=by rcases hm with e | e | e<;>omega
  refine wpAny_bind (wpAny_storeSet_of ho hd ?_ (by rw[sizeLine_eq];omega))
  have A3:t1.fill=es.size+1:=by unfold fill;rw[q2,q3];rfl
  by_cases gF:t1.tooFull=true
  ·rw[gF]
   simp only[Bool.not_false,Bool.and_self,↓reduceIte]
   unfold tooFull at gF
   rw[A3,q1] at gF
   have gF:t.mask*3≤(es.size+1)*5:=of_decide_eq_true gF
   have Oy:t1.fits Fj.size=true:=by
    unfold SetTable.fits
    rw[A3,q2,q1,Jk]
    simp
    omega
   have hr:C5 (sizeAbove (grown (es.size+1)) - 1)∧5*Fj.size<3*(sizeAbove (grown (es.size+1)) - 1):=by
    rw[Jk]
    rcases hm with e | e | e
    ·have:es.size=4:=by omega
     rw[this,Df]
     exact⟨.inr (.inl rfl),by decide⟩
    ·have:es.size=18:=by omega
     rw[this,Ah]
     exact⟨.inr (.inr rfl),by decide⟩
    ·omega
   refine wpAny_bind (vn (o:={o with data:= .set Fj (ep+1) t1}) hg hex rfl Oy q4 hr.1 hr.2 fun h' uk Ge=>wpAny_pure (h h' (xR.trans uk) ?_))
   obtain⟨o2,N3,N0,t2,k1,k2,k3,k4,k5⟩:=Ge
   exact⟨o2,N3,N0,t2,k1,k2,k3,k4.trans LR,q5▸k5⟩
  ·have gF:t1.tooFull=false:=by simpa using gF
   rw[gF]
   simp only[Bool.not_false,Bool.and_false,Bool.false_eq_true,↓reduceIte]
   unfold tooFull at gF
   rw[A3,q1] at gF
   have gF:¬t.mask*3≤(es.size+1)*5:=of_decide_eq_false gF
   exact wpAny_pure (h _ xR ⟨_,Fj,ep+1,t1,hg,hex,rfl,LR,by rw[q1];exact hm,by rw[q2,Jk],q3,by rw[Jk,q1];omega,q4,q5,q6⟩)
 split
 ·refine wpAny_bind (jv y8 ?_)
  exact fin
 ·refine wpAny_bind (wpAny_pure ?_)
  exact fin
end
theorem SetH.at{ld:Bool}{h h':Heap}{a:Addr}{xs:List (Int×Value)}(x:SetH ld h a xs)(e:∀o,h.get? a=some o→h'.get? a=some o):SetH ld h' a xs:=
 let ⟨o,es,ep,t,ho,r⟩:=x
 ⟨o,es,ep,t,e o ho,r⟩
theorem k_{prog:Program}{w:World}{h h':Heap}{ks:List Int}{b:Addr}(x:IsTupleKey (intKind prog w) h ks b)(e:∀o,h.get? b=some o→h'.get? b=some o):IsTupleKey (intKind prog w) h' ks b:=
 let ⟨o,items,n,ho,r⟩:=x
 ⟨o,items,n,e o ho,r⟩
section
variable{prog:Program}{w:World}{A:Around}{R:Result→Shared→Prop}{I:Addr}{fp wr:List Addr}{G:Array GenState→Array GenState→Prop}{n:Nat}{P:Nat→Value→Prop}{St:Nat→Shared→Prop}{ld:Bool}
def zi(prog:Program)(w:World)(ks:Nat→List Int)(ad:Nat→Addr)(i:Nat):List (Int×Value):=(List.range i).map fun j=>(tupleKeyHash (intKind prog w) (ks j), .ref (ad j))
theorem CD(W:WalksS prog w A.in1 I fp wr G n P St)(S:Addr)(Kv:S∉fp)(ks:Nat→List Int)(ad:Nat→Addr)(L1:∀i v,P i v→v= .ref (ad i))(gN:∀i,i<n→ad i≠S∧ad i∉wr)(hu:A.in1.units<cLine)(hn:n≤64)
 (Ac:((List.range n).map fun i=>tupleKeyHash (intKind prog w) (ks i)).Nodup):∀(k i:Nat) (s:Shared),n - i=k→i≤n→St i s→(∀j,j<n→IsTupleKey (intKind prog w) s.heap (ks j) (ad j))→SetH ld s.heap S (zi prog w ks ad i)→
  (∀s',Moved (S::wr) G s s'→SetH ld s'.heap S (zi prog w ks ad n)→R (.ok (.ret .none)) s')→codeAny (model prog w) A (.builtin "set.update.loop" ⟨[.ref S, .ref I],[]⟩) R s:=by
 have Na:S∉wr:=fun h=>Kv (W.sub _ h)
 have DP:∀b∈wr,b∈S::wr:=fun b hb=>List.mem_cons_of_mem _ hb
 intro k
 induction k with
 |zero=>
  intro i s hk hi za hT hS hR
  obtain rfl:i=n:=by omega
  refine codeAny_builtin PyProof.Rows.F.entry_set_update_loop ?_
  rw[Around.under_plainId PyProof.Rows.F.plain_set_update_loop _]
  show wpAny _ A.in1 (pyNext (.ref I)>>=_) _ _ s
  refine wpAny_bind (W.done s _ _ za fun s' hm=>?_)
  show wpAny _ A.in1 (ret Value.none) _ _ s'
  exact wpAny_pure (hR s' (hm.mono DP) (hS.at fun o e=>hm.heap S o Na e))
 |succ k ih=>
  intro i s hk hi za hT hS hR
  have d5:i<n:=by omega
  refine codeAny_builtin PyProof.Rows.F.entry_set_update_loop ?_
  rw[Around.under_plainId PyProof.Rows.F.plain_set_update_loop _]
  show wpAny _ A.in1 (pyNext (.ref I)>>=_) _ _ s
  refine wpAny_bind (W.item i s _ _ d5 za fun v s' hP LY hm=>?_)
  have ev:=L1 i v hP
  subst ev
  have Ge:SetH ld s'.heap S (zi prog w ks ad i):=hS.at fun o e=>hm.heap S o Na e
  have Lo:∀j,j<n→IsTupleKey (intKind prog w) s'.heap (ks j) (ad j):=fun j hj=>k_ (hT j hj) fun o e=>hm.heap _ o (gN j hj).2 e
  show wpAny _ A.in1 (holding [Value.ref (ad i)] (setAdd S (.ref (ad i)))>>=_) _ _ s'
  refine wpAny_bind (wpAny_holding ?_)
  unfold setAdd
  refine wpAny_holding (wpAny_bind (wpAny_pyHash_tuple hu (Lo i d5) ?_))
  refine j8 (s:={s' with toks:=s'.toks+((ks i).length+1)}) (Lo i d5) Ge (fun wa=>?_) (by unfold zi;rw[List.length_map,List.length_range];omega) fun h' xR M_=>?_
  ·unfold zi at wa
   rw[List.map_map] at wa
   obtain⟨j,hj,e⟩:=List.mem_map.mp wa
   have hj:=List.mem_range.mp hj
   have h1:((List.range n).map fun i=>tupleKeyHash (intKind prog w) (ks i))[j]? =some (tupleKeyHash (intKind prog w) (ks j)):=by rw[List.getElem?_map,List.getElem?_range (by omega)];rfl
   have h2:((List.range n).map fun i=>tupleKeyHash (intKind prog w) (ks i))[i]? =some (tupleKeyHash (intKind prog w) (ks j)):=by rw[List.getElem?_map,List.getElem?_range d5];exact congrArg some (show _=_ from e).symm
   have:=(List.getElem?_inj (i:=j) (j:=i) (by simp;omega) Ac).mp (h1.trans h2.symm)
   omega
  have Oj:SetH ld h' S (zi prog w ks ad (i+1)):=by
   unfold zi at M_⊢
   rw[List.range_succ,List.map_append]
   exact M_
  have Mn:∀b o,b≠S→s'.heap.get? b=some o→h'.get? b=some o:=fun b o hb e=>(xR.2 b hb).trans e
  refine wpAny_pure ⟨plainId_quiet PyProof.Rows.F.plain_set_update_loop _,ih (i+1) _ (by omega) d5 (W.frame _ s' _ _ LY (Nat.le_add_right ..) fun b hb o e=>Mn b o (fun z=>Kv (z▸hb)) e) (fun j hj=>k_ (Lo j hj) fun o e=>Mn _ o (gN j hj).1 e) Oj fun J8 LK Ln=>?_⟩
  exact hR J8 (Moved.trans W.gtrans ((hm.mono DP).then_heap (Nat.le_add_right ..) fun b o hb e=>Mn b o (fun z=>hb (z▸List.mem_cons_self ..)) e) LK) Ln
end
def jB(w:World):Bool:=!w.params.followText "set-order"
section
variable{prog:Program}{w:World}{A:Around}{E:Value→Shared→Prop}{s:Shared}
theorem vo(a:Value){Q₁:Value→Shared→Prop}(h:Q₁ (.ref s.heap.objs.size) {s with heap:=s.heap.push {cls:= .type "set",dict:=none,data:= .set #[] 0 (.fresh 0 0 (jB w))} }):
 codeAny (model prog w) A (.call (.builtin "set.__new__") ⟨[.type "set",a],[]⟩) (wants Q₁ E) s:=by
 refine codeAny_of_tree (show wpAny _ A.in1 (do checkBuiltinCall "set.__new__" ⟨[.type "set",a],[]⟩;again (.builtin "set.__new__" ⟨[.type "set",a],[]⟩)) _ _ s from ?_)
 refine wpAny_bind (wpAny_of_eq (F.newCall_set_1 a) (wpAny_pure ⟨plainId_quiet F.plain_set_new _,codeAny_builtin F.entry_set_new ?_⟩))
 rw[Around.under_plainId F.plain_set_new _]
 unfold Builtin.«set.__new__» Builtin.Frozenset.newClass
 have DP:=sub_set_self
 obtain⟨hp,g,d,tk,os⟩:=s
 dsimp only
 wp_walk
 refine wpAny_askSetting (wpAny_pure ?_)
 simp only[newObj]
 exact wpAny_bind (wpAny_alloc (wpAny_pure (wpAny_pure h)))
end
section
variable{prog:Program}{w:World}{A:Around}{E:Value→Shared→Prop}{s:Shared}
set_option maxHeartbeats 3200000 in
theorem pe{l:Addr}{items:Array Value}{ks:Nat→List Int}{ad:Nat→Addr}{Q:Value→Shared→Prop}(hh:A.handled=none)(hu:A.units+8<cLine)(hl:s.heap.IsList l items)(hi:∀i,i<items.size→items[i]? =some (.ref (ad i)))
 (hT:∀j,j<items.size→IsTupleKey (intKind prog w) s.heap (ks j) (ad j))(hn:items.size≤64)(Ac:((List.range items.size).map fun i=>tupleKeyHash (intKind prog w) (ks i)).Nodup)
 (h:∀(h':Heap) (tk:Nat),SetH (jB w) h' s.heap.objs.size (zi prog w ks ad items.size)→(∀b o,b<s.heap.objs.size→s.heap.get? b=some o→h'.get? b=some o)→Q (.ref s.heap.objs.size) {s with heap:=h',toks:=tk}):
 wpAny (model prog w) A (call (.type "set") [.ref l]) Q E s:=by
 obtain⟨c,tl,OS⟩:=F.called_set.mro
 have Nq:=F.called_set.made
 have DP:=F.called_set.sub
 refine wpAny_call (codeAny_of_tree ?_)
 show wpAny _ _ (callAny (.type "set") _) _ _ _
 refine wpAny_pure ⟨Code.quiet_builtin _ (by decide+kernel),codeAny_builtin F.entry_type_call ?_⟩
 rw[Around.under_plain (weight_type_call_type "set" [.ref l] []) rfl]
 have h1:=F.called_set.notType
 have h2:=F.called_set.canCreate
 have Nf:=F.typeCall_set_1 (.ref l)
 repeat (any_goals (first | assumption | wp_step))
 refine codeAny_mono (vo (.ref l) (E:=E) (Q₁:=fun obj s₁=>∃led:Bool,led=jB w∧obj= .ref s.heap.objs.size∧s₁={s with heap:=s.heap.push {cls:= .type "set",dict:=none,data:= .set #[] 0 (.fresh 0 0 led)} }) ⟨_,rfl,rfl,rfl⟩) fun r s₁ hr=>?_
 cases r with
 |error e=>exact hr
 |ok fl=>
  cases fl with
  |ret obj=>
   obtain⟨led,Gq,rfl,rfl⟩:=hr
   have hS:(s.heap.push {cls:= .type "set",dict:=none,data:= .set #[] 0 (.fresh 0 0 led)}).get? s.heap.objs.size=some {cls:= .type "set",dict:=none,data:= .set #[] 0 (.fresh 0 0 led)}:=Heap.get?_push_size _ rfl
   have Ol:Shared.TypeIs {s with heap:=s.heap.push {cls:= .type "set",dict:=none,data:= .set #[] 0 (.fresh 0 0 led)} } (.ref s.heap.objs.size) "set":=⟨_,hS,rfl⟩
   have P5:=F.called_set.init.lookup
   have Nb:=F.called_set.init.bind (.ref s.heap.objs.size)
   repeat (any_goals (first | assumption | wp_step))
   refine codeAny_mono (codeAny_call_builtin (R:=wants (fun r s₂=>r= .none∧∃h' tk,s₂={s with heap:=h',toks:=tk}∧SetH (jB w) h' s.heap.objs.size (zi prog w ks ad items.size)∧(∀b o,b<s.heap.objs.size→s.heap.get? b=some o→h'.get? b=some o)) E) F.called_set.init.plain F.entry_set_init (check_set_init_1 Ol ?_)) fun r₂ s₂ LX=>?_
   ·obtain⟨ol,Nt,IV,nl,Nh⟩:=hl
    obtain⟨Pq,JG,NK,G9⟩:=ol
    simp only at IV Nh
    subst IV;subst Nh
    have LQ:(s.heap.push {cls:= .type "set",dict:=none,data:= .set #[] 0 (.fresh 0 0 led)}).get? l=some {cls:= .type "list",dict:=JG,data:= .seq items nl,slots:=G9}:=Heap.get?_push_of_some _ Nt
    have O3:=F.sub_list_set
    have O2:=F.sub_list_frozenset
    have gN:(Value.type "list"==Value.type "dict")=false:=by decide
    have Ab:(s.heap.push {cls:= .type "set",dict:=none,data:= .set #[] 0 (.fresh 0 0 led)}).IsList l items:=⟨_,LQ,rfl,nl,rfl⟩
    unfold Builtin.«set.__init__» noKeywords Builtin.Frozenset.updateFrom
    generalize Og:pyIter=PI
    wp_walk
    subst Og
    refine wpAny_pyIter_list Ab (wpAny_bind (wpAny_runValue ?_))
    have Nm:l<s.heap.objs.size:=Heap.lt_size Nt
    have OG:A.in1.in1.in1.handled=none:=by simp[hh]
    have LL:l≠(s.heap.push {cls:= .type "set",dict:=none,data:= .set #[] 0 (.fresh 0 0 led)}).objs.size:=by
     rw[Heap.size_push];exact Nat.ne_of_lt (Nat.lt_succ_of_lt Nm)
    have Kv:s.heap.objs.size∉[(s.heap.push {cls:= .type "set",dict:=none,data:= .set #[] 0 (.fresh 0 0 led)}).objs.size,l]:=by
     rw[Heap.size_push];simp only[List.mem_cons,List.mem_singleton,List.not_mem_nil,or_false,not_or]
     exact⟨Nat.ne_of_lt (Nat.lt_succ_self _),Nat.ne_of_gt Nm⟩
    have Lp:∀i,i<items.size→ad i<s.heap.objs.size:=fun i pA=>let ⟨o,_,_,ho,_⟩:=hT i pA;Heap.lt_size ho
    refine CD (ld:=jB w) ((Walks.list OG _ l LL items).toS) s.heap.objs.size Kv ks ad (fun i v hv=>?_) (fun i pA=>?_) ?_ hn Ac (items.size - 0) 0 _ (by omega) (Nat.zero_le _) ⟨⟨_,Heap.get?_push_size _ rfl,rfl,rfl⟩,(Ab.push _)⟩ (fun j hj=>k_ (hT j hj) fun o e=>Heap.get?_push_of_some _ (Heap.get?_push_of_some _ e)) ?hS0 ?hR
    case hS0=>exact⟨_,#[],0,_,Heap.get?_push_of_some _ hS,⟨rfl,rfl,rfl⟩,rfl, .refl _, .inl rfl,rfl,rfl,by show 5*0<3*7;decide,rfl,Gq,List.Pairwise.nil⟩
    case hR=>
     intro s' hm Ge
     obtain⟨h',g',d',PH,Mm⟩:=s'
     obtain rfl:g'=s.gens:=hm.gens
     obtain rfl:d'=s.drawn:=hm.drawn
     obtain rfl:Mm=s.os:=hm.os
     show wpAny _ _ _ _ _ _
     refine wpAny_pure ?_
     show wpAny _ _ (ret Value.none) _ _ _
     refine wpAny_pure ⟨rfl,h',PH,rfl,Ge,fun b o hb e=>?_⟩
     have Kw:b≠s.heap.objs.size:=Nat.ne_of_lt hb
     have Gh:b≠(s.heap.push {cls:= .type "set",dict:=none,data:= .set #[] 0 (.fresh 0 0 led)}).objs.size:=by
      rw[Heap.size_push];exact Nat.ne_of_lt (Nat.lt_succ_of_lt hb)
     exact hm.heap b o (by simp only[List.mem_cons,List.mem_singleton,List.not_mem_nil,or_false,not_or];exact⟨Kw,Gh⟩) (Heap.get?_push_of_some _ (Heap.get?_push_of_some _ e))
    ·have d5:i<items.size:=(Array.getElem?_eq_some_iff.mp hv).1
     exact Option.some.inj ((show items[i]? =some v from hv).symm.trans (hi i d5))
    ·have:=Lp i pA
     refine⟨Nat.ne_of_lt this,?_⟩
     rw[Heap.size_push]
     simp only[List.mem_cons,List.mem_singleton,List.not_mem_nil,or_false]
     exact Nat.ne_of_lt (Nat.lt_succ_of_lt this)
    ·show A.units+1+1+1<cLine
     omega
   ·cases r₂ with
    |error e=>exact LX
    |ok N7=>
     cases N7 with
     |ret r=>
      obtain⟨rfl,h',tk,rfl,Ge,vL⟩:=LX
      repeat (any_goals (first | assumption | wp_step))
      exact h _ _ Ge vL
     |_=>exact LX.elim
  |_=>exact hr.elim
end
end L3
namespace L3
open PySem PySem.Spec L2 HT
open PyProof.Rows hiding St
theorem items_int{P:Program}{w:World}:∀{us:List Value}{ns:List Int},IntsAre us ns→ItemsAre (intKind P w) ns us
 |_,_, .nil=> .nil
 |_,_, .cons n t h=> .cons (intKind_is _ _ _ _) (items_int h)
def Aj:V→Addr
 | .ref a=>a
 |_=>0
theorem u_{X:Cx}{pins:List (Addr×Obj)}{σ:St}{H:Hp}{s:Shared}(I:Inv X pins σ H s){vs:List V}{aG:List Value}{ks:List (List Int)}(hr:b6 H vs ks)(rv:Vals vs aG){i:Nat}(hi:i<aG.toArray.size):
 aG.toArray[i]? =some (.ref (Aj (vs.getD i .non)))∧IsTupleKey (intKind X.prog X.w) s.heap (ks.getD i []) (Aj (vs.getD i .non)):=by
 have hl:=rv.length
 have pA:i<aG.length:=by simpa using hi
 obtain⟨a,e1,e2⟩:=jZ hr (i:=i) (by omega)
 have r:=lh i rv (by omega)
 rw[e1] at r⊢
 have r:aG.getD i Value.none= .ref a:=r
 refine⟨?_,?_⟩
 ·rw[List.getD_eq_getElem?_getD,List.getElem?_eq_getElem pA,Option.getD_some] at r
  rw[List.getElem?_toArray,List.getElem?_eq_getElem pA,r]
  rfl
 ·obtain⟨us,ru,pt,_⟩:=I.tuple (SqT.of (K:=X.K) e2)
  obtain⟨o,q1,q2,m,q3⟩:=pt
  exact⟨o,us.toArray,m,q1,q2,q3,by simpa using items_int (intsAre_of ru)⟩
section
variable{X:Cx}{Xw:Nat→Hp→Prop}{e:Expr}{δ:DE}{pos pJ p p2:Pos}
theorem CF{pins:List (Addr×Obj)}{σ:St}{H:Hp}{s:Shared}{Q:Value→Shared→Prop}{E:Value→Shared→Prop}(I:Inv X pins σ H s)(hc:X.calm=true)(hu:X.A.units+64<cLine){a:Addr}{ws:List V}{ks:List (List Int)}(hl:SqL X.K H a ws)(hr:b6 H ws ks)(hn:ks.length≤64)(Ac:(ks.map c0).Nodup)
 (h:∀h' tk,SetH (jB X.w) h' s.heap.objs.size (zi X.prog X.w (fun i=>ks.getD i []) (fun i=>Aj (ws.getD i .non)) ks.length)→(∀b o,s.heap.get? b=some o→h'.get? b=some o)→Q (.ref s.heap.objs.size) {s with heap:=h',toks:=tk}):
 wpAny (model X.prog X.w) X.A (call (.type "set") [.ref a]) Q E s:=by
 obtain⟨aG,rv,pl,hz⟩:=I.list hl
 have h1:=g7 hr
 have h2:=rv.length
 have hsz:aG.toArray.size=ks.length:=by rw[List.size_toArray];omega
 refine pe (items:=aG.toArray) (ks:=fun i=>ks.getD i []) (ad:=fun i=>Aj (ws.getD i .non)) (I.ok.hd hc) (by omega) pl.isList (fun i hi=>(u_ I hr rv hi).1) (fun i hi=>(u_ I hr rv hi).2) (by omega) ?_ fun h' tk hS hk=>?_
 ·rw[hsz]
  have e:((List.range ks.length).map fun i=>tupleKeyHash (intKind X.prog X.w) (ks.getD i []))=ks.map c0:=by
   refine List.ext_getElem (by simp) fun i h1 h2=>?_
   have hi:i<ks.length:=by simpa using h1
   rw[List.getElem_map,List.getElem_map,List.getElem_range,List.getD_eq_getElem?_getD,List.getElem?_eq_getElem hi]
   rfl
  rw[e]
  exact Ac
 ·rw[hsz] at hS
  exact h h' tk hS fun b o q=>hk b o (Heap.lt_size q) q
end
end L3
namespace L3
open PySem PySem.SetTable PySem.W PyProof.Rows
theorem cU:Slot "set_iterator" "__next__" "set_iterator.__next__":=
 .of (owner:="set_iterator") (n:="__next__") (by rw[typeLookup_type,builtinLookup_eq_fast];kernel_rfl) (by decide+kernel) (by decide+kernel) (by decide+kernel) (by first | exact .inl (by decide+kernel) | exact .inr (by decide+kernel)) (by rw[isSubtype_type];kernel_rfl)
theorem j_:Slot "set_iterator" "__iter__" "set_iterator.__iter__":=
 .of (owner:="set_iterator") (n:="__iter__") (by rw[typeLookup_type,builtinLookup_eq_fast];kernel_rfl) (by decide+kernel) (by decide+kernel) (by decide+kernel) (by first | exact .inl (by decide+kernel) | exact .inr (by decide+kernel)) (by rw[isSubtype_type];kernel_rfl)
theorem uV:Manifest.owners.lookup (String.ofList ['r', 'o', 't', 'a', 'r', 'e', 't', 'i', '_', 't', 'e', 's'].reverse)=some Manifest.sig_set_iterator:=by kernel_rfl
theorem jh(a:Value):argsOk "set_iterator.__next__" ⟨[a],[]⟩:=by
 unfold argsOk
 rw[signature?_of (id:="set_iterator.__next__") (n:=['_', '_', 't', 'x', 'e', 'n', '_', '_']) (o:=['r', 'o', 't', 'a', 'r', 'e', 't', 'i', '_', 't', 'e', 's']) (by kernel_rfl) uV]
 kernel_rfl
theorem ro(a:Value):argsOk "set_iterator.__iter__" ⟨[a],[]⟩:=by
 unfold argsOk
 rw[signature?_of (id:="set_iterator.__iter__") (n:=['_', '_', 'r', 'e', 't', 'i', '_', '_']) (o:=['r', 'o', 't', 'a', 'r', 'e', 't', 'i', '_', 't', 'e', 's']) (by kernel_rfl) uV]
 kernel_rfl
theorem iR:entryFor table "set_iterator.__next__"=some Builtin.«set_iterator.__next__» :=entryFor_of_tree (by kernel_rfl)
theorem m8:entryFor table "set.__iter__"=some Builtin.«frozenset.__iter__» :=entryFor_alias (id':="frozenset.__iter__") (by kernel_rfl) rfl (by decide+kernel) (by kernel_rfl)
theorem pk:entryFor table "set_iterator.__iter__"=some Builtin.«dict_keyiterator.__iter__» :=entryFor_alias (id':="dict_keyiterator.__iter__") (by kernel_rfl) rfl (by decide+kernel) (by kernel_rfl)
def IsSI(h:Heap)(it a:Addr)(sl k n ep:Nat):Prop:=∃o,h.get? it=some o∧o.cls= .type "set_iterator"∧o.data= .fields #[rawInt sl,rawInt k, .ref a,rawInt n,rawInt ep]
theorem IsSI.typeIs{s:Shared}{it a:Addr}{sl k n ep:Nat}(x:IsSI s.heap it a sl k n ep):s.TypeIs (.ref it) "set_iterator":=let ⟨o,ho,hc,_⟩:=x;⟨o,ho,hc⟩
theorem IsSI.at{h h':Heap}{it a:Addr}{sl k n ep:Nat}(x:IsSI h it a sl k n ep)(e:∀o,h.get? it=some o→h'.get? it=some o):IsSI h' it a sl k n ep:=let ⟨o,ho,r⟩:=x;⟨o,e o ho,r⟩
def jO(w:World)(a:Addr)(ep:Nat)(es:Array (Int×Value)):Array (Int×Value):=if w.params.followText "set-order" then pickOrder (w.params.setOrder a ep) es else es
def fW(w:World)(t:SetTable)(k:Nat):Nat:=if w.params.followText "set-order" then 0 else slotAt t.place k
section
variable{prog:Program}{w:World}{A:Around}{E:Value→Shared→Prop}{s:Shared}{a:Addr}{o:Obj}{es:Array (Int×Value)}{ep:Nat}{t:SetTable}
theorem Bi{Q:Value→Shared→Prop}(ho:s.heap.get? a=some o)(hex:o.ExactSet)(hd:o.data= .set es ep t)(ht:TabOk t es.size (jB w))
 (hQ:Q (.ref s.heap.objs.size) {s with heap:=s.heap.push {cls:= .type "set_iterator",data:= .fields #[rawInt 0,rawInt 0, .ref a,rawInt es.size,rawInt ep]} }):wpAny (model prog w) A (pyIter (.ref a)) Q E s:=by
 have hT:s.TypeIs (.ref a) "set":=⟨o,ho,hex.1⟩
 have hf:=ht.fits
 refine wpAny_pyIter_slot hT F.slot_set_iter (wpAny_call_entry F.slot_set_iter hT m8 ?_ (F.args_set_iter_1 _))
 unfold Builtin.«frozenset.__iter__» Builtin.Frozenset.slot0 slotArgs
 simp only[List.isEmpty_nil,Bool.not_true,Bool.false_eq_true,↓reduceIte,bind_assoc,List.length_nil,bne_self_eq_false]
 unfold Builtin.Frozenset.addrOf Builtin.Frozenset.sizeOf
 refine wpAny_bind (wpAny_pure ?_)
 try dsimp only
 refine wpAny_bind (wpAny_pure ?_)
 refine wpAny_bind (wpAny_bind (wpAny_setEntries_of ho hd hf (wpAny_pure ?_)))
 unfold setDrawn setsByText
 refine wpAny_bind (wpAny_bind (wpAny_setState_of ho hd hf (wpAny_bind (wpAny_bind (wpAny_askSetting (wpAny_pure (wpAny_pure ?_)))))))
 refine wpAny_ite_split (fun yY=>?_) fun _=>?_
 ·have IP:(!w.params.followText "set-order" &&(!t.plain&&decide (es.size>1)))=true:=yY
  rw[ht.plain] at IP
  simp at IP
 ·refine wpAny_bind (wpAny_pure (wpAny_bind (wpAny_setEpoch_of ho hd hf ?_)))
  unfold newFields
  exact wpAny_bind (wpAny_newObj_type (wpAny_pure ⟨_,rfl,"set_iterator",_,⟨_,Heap.get?_push_size _ rfl,rfl⟩,cU.lookup,hQ⟩))
theorem CC{it:Addr}{sl k n:Nat}{Q:Value→Shared→Prop}(hit:IsSI s.heap it a sl k n ep)(h:Q (.ref it) s):wpAny (model prog w) A (pyIter (.ref it)) Q E s:=by
 refine wpAny_pyIter_slot hit.typeIs j_ (wpAny_call_entry j_ hit.typeIs pk ?_ (ro _))
 show wpAny _ _ (ret (.ref it)) _ _ s
 exact wpAny_pure ⟨_,rfl,"set_iterator",_,hit.typeIs,cU.lookup,h⟩
theorem oM{k:Nat}{Q:Option (Value×Nat)→Shared→Prop}(ho:s.heap.get? a=some o)(hd:o.data= .set es ep t)(ht:TabOk t es.size (jB w))(hk:k≤es.size)
 (h:Q ((jO w a ep es)[k]?.map fun e=>(e.2,fW w t (k+1))) s):wpAny (model prog w) A (setNext a (fW w t k) k ep) Q E s:=by
 have hf:=ht.fits
 unfold setNext setsByText
 refine wpAny_bind (wpAny_setState_of ho hd hf (wpAny_bind (wpAny_bind (wpAny_askSetting (wpAny_pure ?_)))))
 have hl:=ht.led
 unfold jO fW at h
 unfold fW
 unfold jB at hl
 refine wpAny_ite_split (fun hb=>?_) fun hb=>?_
 ·have hb:w.params.followText "set-order"=true:=hb
  rw[if_pos hb,if_pos hb] at h
  dsimp only
  rw[bne_self_eq_false,if_neg (by decide),if_pos hb]
  unfold setWalk setsByText
  refine wpAny_bind (wpAny_bind (wpAny_setState_of ho hd hf (wpAny_bind (wpAny_bind (wpAny_askSetting (wpAny_pure ?_))))))
  refine wpAny_ite_split (fun _=>?_) fun nj=>absurd hb nj
  exact wpAny_bind (wpAny_askSetting (wpAny_pure (wpAny_pure h)))
 ·have hb:¬w.params.followText "set-order"=true:=hb
  have Lq:w.params.followText "set-order"=false:=by simpa using hb
  rw[if_neg hb,if_neg hb] at h
  rw[Lq] at hl
  dsimp only
  refine wpAny_ite_split (fun Ou=>?_) fun _=>?_
  ·have IY:(!t.plain&&decide (es.size>1))=true:=Ou
   rw[ht.plain] at IY
   simp at IY
  ·refine wpAny_bind (wpAny_of_eq (a:=()) ?_ ?_)
   ·show (if (!t.led&& !es.isEmpty)=true then(unsupported "set:maker-not-led":Sem Unit) else pure ())=_
    rw[hl]
    rfl
   ·rw[if_neg hb,below_at ht.rise (by rw[ht.size];exact hk)]
    refine wpAny_pure ?_
    by_cases d5:k<es.size
    ·have h1:es[k]? =some es[k]:=Array.getElem?_eq_getElem d5
     have h2:t.place[k]? =some (t.place[k]'(by rw[ht.size];exact d5)):=Array.getElem?_eq_getElem (by rw[ht.size];exact d5)
     have h3:slotAt t.place (k+1)=t.place[k]'(by rw[ht.size];exact d5)+1:=by
      show t.place.getD k 0+1=_
      rw[Array.getD_eq_getD_getElem?,h2]
      rfl
     rw[h1,h2]
     rw[h1,h3] at h
     exact h
    ·have h1:es[k]? =none:=Array.getElem?_eq_none (by omega)
     rw[h1]
     rw[h1] at h
     exact h
theorem qN{α:Type}(next:Nat→Nat):∀(fuel k:Nat) (left:List α) (out:Array α),left.length=fuel→(pickOrder.go next fuel k left out).toList.Perm (out.toList++left)
 |0,k,left,out,h=>by
  rw[List.length_eq_zero_iff.mp h,List.append_nil]
  exact .refl _
 |fuel+1,k,left,out,h=>by
  unfold pickOrder.go
  have hi:next k % left.length<left.length:=Nat.mod_lt _ (by omega)
  rw[List.getElem?_eq_getElem hi]
  dsimp only
  refine(qN next fuel (k+1) _ _ (by rw[List.length_eraseIdx_of_lt hi];omega)).trans ?_
  rw[Array.toList_push,List.append_assoc]
  refine List.Perm.append_left _ ?_
  rw[List.eraseIdx_eq_take_drop_succ]
  have hp:=(List.perm_middle (a:=left[next k % left.length]) (l₁:=left.take (next k % left.length)) (l₂:=left.drop (next k % left.length+1))).symm
  rw[←List.drop_eq_getElem_cons hi,List.take_append_drop] at hp
  exact hp
theorem gX(w:World)(a:Addr)(ep:Nat)(es:Array (Int×Value)):(jO w a ep es).toList.Perm es.toList:=by
 unfold jO
 split
 ·exact(qN _ es.size 0 es.toList #[] (Array.length_toList ..)).trans (by simp)
 ·exact .refl _
theorem Bw{it:Addr}{k:Nat}{e:Int×Value}{Q:Option Value→Shared→Prop}(hit:IsSI s.heap it a (fW w t k) k es.size ep)(gN:a≠it)(ho:s.heap.get? a=some o)(hd:o.data= .set es ep t)(ht:TabOk t es.size (jB w))(hx:(jO w a ep es)[k]? =some e)
 (hQ:∀h',IsSI h' it a (fW w t (k+1)) (k+1) es.size ep→Heap.SameBut it s.heap h'→Q (some e.2) {s with heap:=h'}):wpAny (model prog w) A (pyNext (.ref it)) Q E s:=by
 have hsz:(jO w a ep es).size=es.size:=by rw[←Array.length_toList,(gX w a ep es).length_eq,Array.length_toList]
 have d5:k<es.size:=by rw[←hsz];exact(Array.getElem?_eq_some_iff.mp hx).1
 obtain⟨oi,H9,Nd,Gk⟩:=id hit
 unfold pyNext
 refine wpAny_bind (wpAny_attempt (wpAny_callSpecial?_slot (name:=Str.ofString "__next__") hit.typeIs cU (wpAny_call_entry cU hit.typeIs iR ?_ (jh _))))
 unfold Builtin.«set_iterator.__next__» slotArgs
 simp only[List.isEmpty_nil,Bool.not_true,Bool.false_eq_true,↓reduceIte,bind_assoc,List.length_nil,bne_self_eq_false]
 refine wpAny_bind (wpAny_pure (wpAny_bind (wpAny_fieldsOf H9 Gk ?_)))
 simp only[rawInt]
 refine wpAny_bind (wpAny_setEntries_of ho hd ht.fits ?_)
 rw[if_neg (by simp)]
 simp only[Int.toNat_natCast]
 refine wpAny_bind (oM ho hd ht (Nat.le_of_lt d5) ?_)
 rw[hx]
 show wpAny _ _ (setField (.ref it) 0 (rawInt ((fW w t (k+1):Nat):Int))>>=_) _ _ s
 refine wpAny_bind (wpAny_setField H9 Gk (by simp) ?_)
 have h1:(s.heap.update it (Obj.mapFields (·.setIfInBounds 0 (rawInt ((fW w t (k+1):Nat):Int))))).get? it=some (Obj.mapFields (·.setIfInBounds 0 (rawInt ((fW w t (k+1):Nat):Int))) oi):=Heap.get?_update_self _ H9 (Obj.isFreed_of_fields (Obj.data_mapFields Gk _))
 have d1:=Obj.data_mapFields Gk (·.setIfInBounds 0 (rawInt ((fW w t (k+1):Nat):Int)))
 show wpAny _ _ (setField (.ref it) 1 (rawInt ((k:Int)+1))>>=_) _ _ _
 refine wpAny_bind (wpAny_setField h1 d1 (by simp) ?_)
 refine wpAny_pure ⟨_,rfl,wpAny_pure (hQ _ ⟨_,Heap.get?_update_self _ h1 (Obj.isFreed_of_fields (Obj.data_mapFields d1 _)),(Obj.cls_mapFields ..).trans ((Obj.cls_mapFields ..).trans Nd),?_⟩ ((Heap.SameBut.update ..).trans (Heap.SameBut.update ..)))⟩
 rw[Obj.data_mapFields d1]
 simp[rawInt]
theorem Du{it:Addr}{Q:Option Value→Shared→Prop}(hh:A.handled=none)(hit:IsSI s.heap it a (fW w t es.size) es.size es.size ep)(ho:s.heap.get? a=some o)(hd:o.data= .set es ep t)(ht:TabOk t es.size (jB w))
 (hQ:∀h',Heap.ExtBut it s.heap h'→Q none {s with heap:=h'}):wpAny (model prog w) A (pyNext (.ref it)) Q E s:=by
 have hsz:(jO w a ep es).size=es.size:=by rw[←Array.length_toList,(gX w a ep es).length_eq,Array.length_toList]
 obtain⟨oi,H9,Nd,Gk⟩:=id hit
 unfold pyNext
 refine wpAny_bind (wpAny_attempt (wpAny_callSpecial?_slot (name:=Str.ofString "__next__") hit.typeIs cU (wpAny_call_entry cU hit.typeIs iR ?_ (jh _))))
 unfold Builtin.«set_iterator.__next__» slotArgs
 simp only[List.isEmpty_nil,Bool.not_true,Bool.false_eq_true,↓reduceIte,bind_assoc,List.length_nil,bne_self_eq_false]
 refine wpAny_bind (wpAny_pure (wpAny_bind (wpAny_fieldsOf H9 Gk ?_)))
 simp only[rawInt]
 refine wpAny_bind (wpAny_setEntries_of ho hd ht.fits ?_)
 rw[if_neg (by simp)]
 simp only[Int.toNat_natCast]
 refine wpAny_bind (oM ho hd ht (Nat.le_refl _) ?_)
 rw[Array.getElem?_eq_none (Nat.le_of_eq hsz)]
 show wpAny _ _ (setField (.ref it) 2 .none>>=_) _ _ s
 refine wpAny_bind (wpAny_setField H9 Gk (by simp) ?_)
 refine wpAny_bind ?_
 simp only[newExc,newTuple]
 refine wpAny_bind (wpAny_newObj_type ?_ (by size_fits))
 refine wpAny_bind (m:=firstArgMember _ _) (wpAny_of_eq (a:=Value.none) (by first | rfl | (simp only[firstArgMember];rfl)) ?_)
 refine wpAny_newObj_type ?_ (by size_fits)
 simp only[raiseNew]
 refine wpAny_bind (wpAny_handled ?_)
 rw[show A.in1.handled=none from hh]
 refine wpAny_bind (wpAny_pure (wpAny_throw ?_))
 refine wpAny_bind (wpAny_isInstance (T:="StopIteration") (b:=true) ⟨_,Heap.get?_push_size _ rfl,rfl⟩ isSubtype_stop ?_)
 exact wpAny_pure (hQ _ (((Heap.SameBut.update ..).extBut.push _).push _))
def Io(w:World)(a:Addr)(ep:Nat)(es:Array (Int×Value)):Nat→Value→Prop:=fun i v=>∃e,(jO w a ep es)[i]? =some e∧v=e.2
theorem z5(hh:A.handled=none)(I a:Addr)(gN:a≠I)(hd:o.data= .set es ep t)(ht:TabOk t es.size (jB w)):
 Walks prog w A I [I,a] [I] es.size (Io w a ep es) (fun i h=>IsSI h I a (fW w t i) i es.size ep∧h.get? a=some o) where
 sub:=fun b hb=>by simp at hb;simp[hb]
 frame:=fun _ _ _ st hk=>⟨st.1.at fun o e=>hk I (by simp) o e,hk a (by simp) _ st.2⟩
 item:=fun i s Q E hi st hQ=>by
  have hsz:(jO w a ep es).size=es.size:=by rw[←Array.length_toList,(gX w a ep es).length_eq,Array.length_toList]
  have hx:(jO w a ep es)[i]? =some ((jO w a ep es)[i]'(by omega)):=Array.getElem?_eq_getElem (by omega)
  exact Bw st.1 gN st.2 hd ht hx fun h' y7 uk=>hQ _ h' s.toks ⟨_,hx,rfl⟩ ⟨y7,(uk.2 a gN).trans st.2⟩ fun b o hb e=>uk.extBut b o (fun h=>hb (by simp[h])) e
 done:=fun s Q E st hQ=>Du hh st.1 st.2 hd ht fun h' Lx=>hQ h' s.toks fun b o hb e=>Lx b o (fun h=>hb (by simp[h])) e
 self:=fun _ _ _ _ st hQ=>CC st.1 hQ
theorem A6{Q:Bool→Shared→Prop}(hT:s.TypeIs (.ref a) "set")(h:Q false s):wpAny (model prog w) A (Builtin.List.listLengthHint (.ref a)) Q E s:=by
 unfold Builtin.List.listLengthHint
 refine wpAny_bind (wpAny_specialOf hT F.slot_set_len.lookup ?_)
 generalize LB:("set.__len__":String)=Pf
 wp_delta
 rw[show splitId Pf=some ("set","__len__") from by subst LB;decide+kernel]
 subst LB
 refine wpAny_bind (wpAny_isInstance (T:="set") (b:=true) hT (by rw[isSubtype_type];kernel_rfl) ?_)
 refine wpAny_ite_split (fun yY=>absurd yY (by decide)) fun _=>wpAny_ite_split (fun _=>wpAny_bind (wpAny_typeOf hT (wpAny_pure h))) fun yY=>absurd (by decide+kernel) yY
theorem EW{a:Addr}(hex:o.ExactSet)(hd:o.data= .set es ep t)(ht:TabOk t es.size (jB w)):KdlSrc prog w "set" a a es.size (Io w a ep es) (fun h=>h.get? a=some o) where
 type:=fun _ hm=>⟨o,hm,hex.1⟩
 there:=fun _ hm=>⟨Heap.lt_size hm,Heap.lt_size hm⟩
 keep:=fun _ _ hm hk=>hk a (.inl rfl) o hm
 notList:=by decide
 notTuple:=by decide
 hint:=fun _ _ s _ hm hq=>A6 ⟨o,hm,hex.1⟩ hq
 iter:=fun _ _ hh hm=>⟨_,_,(fun _ _ hq=>Bi hm hex hd ht hq),z5 hh _ a (Nat.ne_of_lt (Heap.lt_size hm)) hd ht,⟨⟨_,Heap.get?_push_size _ rfl,rfl,by unfold fW;split<;>rfl⟩,Heap.get?_push_of_some _ hm⟩⟩
end
end L3
namespace L3
open PySem PySem.Spec L2 SeqAt HT
open PyProof.Rows hiding St
def iI:D→M D
 | .lst ds=>match gb ds with
   |some ks=>if dY ks=true∧(ks.map c0).Nodup then M.ret (.lst ((sortI ks).map tupI)) else M.stuck
   |none=>M.stuck
 |_=>M.stuck
section
variable{X:Cx}{Xw:Nat→Hp→Prop}{e:Expr}{δ:DE}{pos pJ p p2:Pos}
theorem xc{pins:List (Addr×Obj)}{σ:St}{H:Hp}{s:Shared}{Q:VK}(I:Inv X pins σ H s)(hc:X.calm=true){S:Addr}{ws:List V}{ks:List (List Int)}(hr:b6 H ws ks)(hk:dY ks=true)
 (hS:SetH (jB X.w) s.heap S (zi X.prog X.w (fun i=>ks.getD i []) (fun i=>Aj (ws.getD i .non)) ks.length))
 (q:∀(q:Addr) (us:List V),H q=none→b6 H us (sortI ks)→Q (.ref q) (upd H q (.lst us))):wpAny (model X.prog X.w) X.A (call (.builtin "sorted") [.ref S]) (EP X pins σ Q) X.xe s:=by
 obtain⟨o,es,ep,t,ho,hex,Lv,hp,ht⟩:=hS
 unfold dY at hk
 rw[Bool.and_eq_true,Bool.and_eq_true] at hk
 have hd:ks.Nodup:=of_decide_eq_true hk.1.1
 have IL:ks.length<64:=of_decide_eq_true hk.1.2
 have gN:∀k∈ks,k≠[]:=fun k vL z=>by have:=List.all_eq_true.mp hk.2 k vL;rw[z] at this;cases this
 have Kz:es.size=ks.length:=by rw[←Array.length_toList,hp.length_eq];unfold zi;rw[List.length_map,List.length_range]
 have Ad:sizeLine=16777216:=sizeLine_eq
 have Ab:=g7 hr
 refine Calls.call_function_entry kind_sorted plain_sorted entry_sorted (args_sorted1 _) ?_
 unfold Builtin.«sorted»
 refine wpAny_bind (m:=checkCount "sorted" 1 1 _) (wpAny_pure (wpAny_bind (PySem.W.kdu_collect (A:=X.A.in1) (EW hex Lv ht) (I.ok.hd hc) ho (by rw[Kz,Ad];omega) fun h1 tk acc Bn pz=>?_)))
 have I1:Inv X pins σ H {s with heap:=h1,toks:=tk}:=I.kept (t':=tk) fun b ob e=>Bn b ob e
 obtain⟨js,LI,NY⟩:∃js:List Nat,js.Perm (List.range ks.length)∧acc.toList=js.map fun j=>Value.ref (Aj (ws.getD j .non)):=by
  have e1:acc.toList=(jO X.w S ep es).toList.map (·.2):=by
   have hsz:(jO X.w S ep es).size=es.size:=by rw[←Array.length_toList,(gX X.w S ep es).length_eq,Array.length_toList]
   refine List.ext_getElem? fun i=>?_
   rw[List.getElem?_map]
   by_cases hi:i<es.size
   ·have ha:acc[i]? =some (acc[i]'(by rw[pz.1];exact hi)):=Array.getElem?_eq_getElem (by rw[pz.1];exact hi)
    obtain⟨e,q1,q2⟩:=pz.2 i _ ha
    rw[Array.getElem?_toList,Array.getElem?_toList,q1,ha,q2]
    rfl
   ·rw[List.getElem?_eq_none (by rw[Array.length_toList,pz.1];omega),List.getElem?_eq_none (by rw[Array.length_toList];omega)]
    rfl
  have e2:((jO X.w S ep es).toList.map (·.2)).Perm ((List.range ks.length).map fun j=>Value.ref (Aj (ws.getD j .non))):=by
   have:=(((gX X.w S ep es).trans hp).map (·.2))
   unfold zi at this
   rw[List.map_map] at this
   exact this
  rw[←e1] at e2
  have lift:∀(l:List Value) (r:List Nat),l.Perm (r.map fun j=>Value.ref (Aj (ws.getD j .non)))→∃js:List Nat,js.Perm r∧l=js.map fun j=>Value.ref (Aj (ws.getD j .non)):=by
   intro l
   induction l with
   |nil=>
    intro r h
    have:=List.Perm.eq_nil h.symm
    exact⟨[],by rw[List.map_eq_nil_iff.mp this],rfl⟩
   |cons v l ih=>
    intro r h
    obtain⟨j,hj,ej⟩:=List.mem_map.mp (h.mem_iff.mp (List.mem_cons_self ..))
    obtain⟨r1,r2,rfl⟩:=List.append_of_mem hj
    have h':l.Perm ((r1++r2).map fun j=>Value.ref (Aj (ws.getD j .non))):=by
     have h1:=h
     rw[List.map_append,List.map_cons,←ej] at h1
     rw[List.map_append]
     exact List.Perm.cons_inv (h1.trans (by rw[ej];exact List.perm_middle))
    obtain⟨js,k1,k2⟩:=ih _ h'
    exact⟨j::js,(k1.cons j).trans List.perm_middle.symm,by rw[List.map_cons,←k2,ej]⟩
  exact lift _ _ e2
 have PZ:js.length=ks.length:=by rw[LI.length_eq,List.length_range]
 have wa:∀j∈js,j<ks.length:=fun j hj=>List.mem_range.mp (LI.mem_iff.mp hj)
 have Fy:b6 H (js.map fun i=>ws.getD i .non) (js.map fun i=>ks.getD i []):=iE hr fun i hi=>by rw[Ab];exact wa i hi
 have rv:Vals (js.map fun i=>ws.getD i .non) acc.toList:=by
  rw[NY]
  refine oY (by simp) fun i v u e1 e2=>?_
  rw[List.getElem?_map] at e1 e2
  cases hj:js[i]? with
  |none=>rw[hj] at e1;cases e1
  |some j=>
   rw[hj] at e1 e2
   cases e1
   cases e2
   obtain⟨a,e3,_⟩:=jZ hr (i:=j) (by rw[Ab];exact wa j (List.mem_of_getElem? hj))
   show RelV (ws.getD j .non) (.ref (Aj (ws.getD j .non)))
   rw[e3]
   rfl
 have A8:(js.map fun i=>ks.getD i []).Perm ks:=by
  have h1:=LI.map fun i=>ks.getD i []
  have h2:(List.range ks.length).map (fun i=>ks.getD i [])=ks:=by
   refine List.ext_getElem (by simp) fun i h1 h2=>?_
   rw[List.getElem_map,List.getElem_range,List.getD_eq_getElem?_getD,List.getElem?_eq_getElem h2]
   rfl
  rwa [h2] at h1
 generalize Qa:(js.map fun i=>ws.getD i .non)=vs' at Fy rv
 generalize DI:(js.map fun i=>ks.getD i [])=ks' at Fy A8
 have qc:ks'.Nodup:=A8.nodup_iff.mpr hd
 have Jm:sortI ks'=sortI ks:=j1 (eU qc) (eU hd) fun x=>by rw[dm,dm];exact A8.mem_iff
 have Gp:=g7 Fy
 have P1:=rv.length
 have P2:=A8.length_eq
 have O6:=kU I1 Fy rv fun k vL=>gN k (A8.mem_iff.mp vL)
 refine wpAny_bind (wpAny_newList ?_ (by rw[Ad];omega))
 have Gz:(h1.push (seqObj "list" acc.toList.toArray 0)).get? h1.objs.size=some (seqObj "list" acc.toList.toArray 0):=Heap.get?_push_size _ rfl
 refine wpAny_bind (wpAny_holding (wpAny_call_entry slot_list_sort ⟨_,Gz,rfl⟩ entry_list_sort (q0 (s:={s with heap:=h1.push (seqObj "list" acc.toList.toArray 0),toks:=tk}) Gz
  (O6.keep (a:=h1.objs.size) (fun b o _ e=>Heap.get?_push_of_some _ e) (fun o e=>absurd (Heap.lt_size e) (Nat.lt_irrefl _))) qc (by omega) fun P h' c' hP hR A4 A7=>?_) (args_list_sort _)))
 have HZ:∀i∈P.toList,i<vs'.length:=fun i hi=>by
  obtain⟨j,hj,rfl⟩:=List.mem_iff_getElem.mp hi
  have h':j<P.size:=by rw[Array.length_toList] at hj;exact hj
  have:=hP.lt j (by rw[hP.sz] at h';exact h')
  rw[dU,Array.getElem?_eq_getElem h'] at this
  have e:P.toList[j]=P[j]:=by simp
  rw[e]
  have:P[j]<acc.toList.length:=this
  omega
 have IQ:acc.toList.length=ks'.length:=by omega
 have Ll:PN ks'.length P:=by rw[←IQ];exact hP
 have Lm:Ri (fun i j=>dN (ks'.getD i []) (ks'.getD j [])) P ks'.length:=by rw[←IQ];exact hR
 have H_:=q9 qc Ll Lm
 have Jn:=iE Fy HZ
 rw[H_,Jm] at Jn
 refine⟨_,rfl,wpAny_pure ⟨_,rfl,⟨.ref h1.objs.size,_,I1.laid (a:=h1.objs.size) (t':=tk) (o:= .lst (P.toList.map fun i=>vs'.getD i .non)) (fun b ob e=>A7 b ob (Nat.ne_of_lt (Heap.lt_size e)) (Heap.get?_push_of_some _ e)) (Nat.le_refl _) ?_,rfl,q _ _ (I1.hok.fresh (Nat.le_refl _)) Jn⟩⟩⟩
 exact⟨by rw[List.length_map,Array.length_toList,hP.sz,Ad];omega,_,c',lj rv HZ,A4⟩
theorem zH(hc:X.calm=true)(hu:X.A.units+64<cLine)(hg:Gl X "sorted")(hm:X.mg "sorted"=none)(OB:Gl X "set")(Gs:X.mg "set"=none)(hb:bootBuiltins "sorted"=some (.builtin "sorted"))(Gh:bootBuiltins "set"=some (.type "set"))(ha:PD X Xw e δ)
 (Nj:starEach [e] X.env=[(false,eval e X.env)]:=by rfl)(he:starEach [.Call (.Name "set" p2) [e] [] pJ] X.env=[(false,eval (.Call (.Name "set" p2) [e] [] pJ) X.env)]:=by rfl):
 PD X Xw (.Call (.Name "sorted" p) [.Call (.Name "set" p2) [e] [] pJ] [] pos) (d1 iI δ):=fun pins s σ H Q I ⟨F,ρ,S,w⟩=>by
 have w:WP X.K Xw F H (δ ρ>>=iI) Q:=w
 refine wpAny_Call_Name_kw (gO I hg hm hb ?_ (by decide) (by decide))
 refine PyProof.Rows.callWith_builtin1 ?_ he rfl
 rw[he]
 refine Calls.spliced_cons (wpAny_Call_Name_kw (gO I OB Gs Gh ?_ (by decide) (by decide)))
 refine PyProof.Rows.callWith_type1 ?_ Nj rfl
 rw[Nj]
 refine Calls.spliced_cons (bS (ha pins s σ H _ I ⟨F,ρ,S,WP.bind w⟩) fun u s1 ⟨v,H1,I1,r,F1,d,e1,q1,w1⟩=>Calls.spliced_nil ?_)
 unfold iI at w1
 split at w1
 ·rename_i ds
  split at w1
  ·rename_i ks DJ
   split at w1
   ·rename_i hok
    obtain⟨a,ws,rfl,h2,h3,h4⟩:=q1
    cases (show u=_ from r)
    have hr:=(qg e1.fh DJ h3).1
    have hl:=qh DJ h3
    have IL:ks.length<64:=by
     have:=hok.1
     unfold dY at this
     rw[Bool.and_eq_true,Bool.and_eq_true] at this
     exact of_decide_eq_true this.1.2
    refine CF I1 hc hu (SqL.of (e1.fh _ _ h2)) hr (by omega) hok.2 fun h' tk hS hk=>Calls.spliced_nil ?_
    refine xc (s:={s1 with heap:=h',toks:=tk}) (I1.kept hk) hc hr hok.1 hS fun q us hq O_=>?_
    obtain⟨F2,e2,r2⟩:=oF e1.fh O_
    have e3:=Ext.lay (o:= .lst us) e2.fh hq
    exact WP.fin w1 (e2.trans e3) ⟨q,_,rfl,aF,DenL.mono e3.ff (oE r2 fun k hk=>hl k (dm.mp hk)),by rw[List.length_map,iG];unfold lim;omega⟩
   ·exact w1.elim
  ·exact w1.elim
 ·exact w1.elim
end
end L3
namespace L3
open PySem PySem.Spec L2 HT
open PyProof.Rows hiding St
section
variable{X:Cx}{Xw:Nat→Hp→Prop}{e:Expr}{δs:DA}{pos p:Pos}
def yx:List D→M D
 |[.lst ds]=>match nums ds with
  |some ns=>M.ret (.int ns.sum)
  |none=>M.stuck
 |_=>M.stuck
theorem yQ(hc:X.calm=true):CallR X (.builtin "sum") (fun xs H Q=>∃(p:Addr) (ns:List Int),xs=[.ref p]∧SqL X.K H p (ns.map V.int)∧Q (.int ns.sum) H):=by
 intro pins s σ H xs us Q I r h
 obtain⟨a,ns,rfl,hq,q⟩:=h
 obtain⟨u,rfl,r1⟩:=r.one
 cases (show u=_ from r1)
 obtain⟨aG,rv,pl,hz⟩:=I.list hq
 have hi:IntsAre aG ns:=by simpa using intsAre_of rv
 obtain⟨xs,hx⟩:=hi.allInts.items
 refine sum_intListG (I.ok.hd hc) (show s.heap.IsList a (intItems xs) from hx▸pl.isList) fun h' tk t' hk=>?_
 have e1:ns=xs.toList.map (·.1):=by
  rw[←nums_intItems,←hx]
  exact(show numsOf aG.toArray.toList=ns from hi.numsOf).symm
 rw[show preSum (numAt xs) xs.size=ns.sum by rw[preSum_eq,List.take_of_length_le (by simp),e1]]
 exact⟨.int ns.sum,H,I.kept hk,⟨_,rfl⟩,q⟩
theorem En(hc:X.calm=true)(hg:Gl X "sum")(hm:X.mg "sum"=none)(hb:bootBuiltins "sum"=some (.builtin "sum"))(ha:mC X Xw [e] δs)(he:starEach [e] X.env=[(false,eval e X.env)]:=by rfl):PD X Xw (.Call (.Name "sum" p) [e] [] pos) (dA yx δs):=
 dF (yQ hc) (fun Xw F H vs ds Q s h w=>by
  unfold yx at w
  split at w
  ·rename_i ds
   obtain⟨v,rfl,h1⟩:=h.one
   obtain⟨a,ws,rfl,h2,h3,h4⟩:=h1
   split at w
   ·rename_i ns H8
    have e:=fK H8 h3
    subst e
    exact⟨a,ns,rfl,SqL.of (s _ _ h2),WP.now w s rfl⟩
   ·exact w.elim
  ·exact w.elim) hg hm hb ha (by decide) (by decide) he rfl
end
section
variable{X:Cx}{Xw:Nat→Hp→Prop}{e:Expr}{δ:DE}{pos pJ p p2:Pos}
end
section
variable{prog:Program}{w:World}{A:Around}{R:Result→Shared→Prop}{I:Addr}{fp wr:List Addr}{G:Array GenState→Array GenState→Prop}{n:Nat}{P:Nat→Value→Prop}{St:Nat→Shared→Prop}
end
section
variable{prog:Program}{w:World}{A:Around}{E:Value→Shared→Prop}{s:Shared}
end
section
variable{X:Cx}{Xw:Nat→Hp→Prop}{e:Expr}{δ:DE}{pos pJ p p2:Pos}
end
section
variable{X:Cx}{Xw:Nat→Hp→Prop}{a b:Expr}{δa δb:DE}{pos:Pos}
end
section
variable{prog:Program}{w:World}{A:Around}{E:Value→Shared→Prop}{s:Shared}
end
section
variable{X:Cx}{Xw:Nat→Hp→Prop}{a b:Expr}{δa δb:DE}{pos:Pos}
end
end L3
namespace L3
open PySem PySem.Spec L2 SeqAt HT
open PyProof.Rows hiding St
section
variable{X:Cx}{Xw:Nat→Hp→Prop}{e:Expr}{δs:DA}{pos p:Pos}
end
end L3
namespace L3
open PySem PySem.Spec L2 HT
open PyProof.Rows hiding St
section
variable{X:Cx}{Xw:Nat→Hp→Prop}{e:Expr}{δs:DA}{pos p:Pos}
end
end L3
namespace L3
open PySem PySem.Spec L2
open PyProof.Rows hiding St
section
variable{X:Cx}{Xw:Nat→Hp→Prop}{a b:Expr}{δa δb:DE}{pos:Pos}
theorem JS(ha:PD X Xw a δa)(hb:PD X Xw b δb):o6 X Xw (.Compare a [.GtE] [b] pos) (cY (d2 Kt δa δb)):=gp JI (qE fun _ _ _=>rfl) ha hb
end
end L3
namespace L3
def Ka(n:Nat)(δs:DA):DS:=fun _=>M.stuck
end L3
namespace K1
open PySem PySem.Spec L2 L3
open PyProof.Rows hiding St
def xo:DS:=(bt (eL (dA gK (aC (dV 0) (aC (dC (.raw (.ty "int"))) aN))) (Fd (dA gK (aC (dV 0) (aC (dC (.raw (.ty "bool"))) aN))))))
def bq:List D→M D:=bV 1 (xo)
def vD:DS:=(bt (eL (dA gK (aC (dV 0) (aC (dC (.raw (.ty "str"))) aN))) (eL (d2 kx (dA aU (aC (dV 0) aN)) (dC (.int 1))) (d2 (AW false) (dV 0) (dC (.str "abcdef"))))))
def cB:List D→M D:=bV 1 (vD)
def o3:DS:=(bt (bT 0 (fun ρ=>(aC (dA aU (aC (d2 bu (dV 0) (dC (.int 0))) aN)) aN) ρ>>=j2) cV (dA dP (aC (dV 2) (aC (dV 0) aN)))))
def aO:List D→M D:=bV 2 (o3)
def vH:DS:=(bt (d2 rP (d2 bu (dV 0) (d2 bu (dV 1) (dC (.int 0)))) (d2 bu (dV 1) (dC (.int 1)))))
def aT:List D→M D:=bV 2 (vH)
def xm:DS:=(aB (bJ 3 (dA Ai (aC (d2 kz (d2 bu (dV 0) (dC (.int 0))) (d2 bu (dV 1) (dC (.int 0)))) aN))) (aB (bJ 4 (dA Ai (aC (d2 kz (d2 bu (dV 0) (dC (.int 1))) (d2 bu (dV 1) (dC (.int 1)))) aN))) (aB (gq (cY (d2 kx (dV 2) (dC (.int 4)))) (bt (d2 kx (d2 dr (dV 3) (dV 4)) (dC (.int 1)))) cJ) (bt (d2 kx (dA wt (aC (dV 3) (aC (dV 4) aN))) (dC (.int 1)))))))
def b7:List D→M D:=bV 5 (xm)
def E8:DS:=(aB (vc 1) (aB (fun ρ=>noex ((dZ (putN 2) (GH (eM (dV 0)) (fun ρ=>(dV 0) ρ>>=lI)) (cH [2] (gH 1 (dV 2) (dC (.bl true))))) ρ)) (Cy 1 (bt (dV 1)))))
def jm:List D→M D:=bV 3 (E8)
def o5:DS:=(aB (gq (cY (d2 kx (dV 0) (dA fN aN))) (bt (d2 gJ (dC (.int 7)) (dV 1))) cJ) (bt (d2 dr (d2 AX (dV 0) (d2 jt (dV 1) (dA aU (aC (dV 0) aN)))) (d2 gJ (dC (.int 6553)) (d2 pq (dV 1) (dA aU (aC (dV 0) aN)))))))
def eO:List D→M D:=bV 2 (o5)
def vE:DS:=(aB (gq (i6 (cN (bW (dA gK (aC (dV 0) (aC (dC (.raw (.ty "str"))) aN))))) (cN (cY (vV (fun i j=>decide (i≤j)) (fun i j=>decide (i≤j)) (dC (.int 1)) (dA aU (aC (dV 0) aN)) (dC (.int 8)))))) (bt (dC (.bl false))) cJ) (bt (dA allM (aC (bT 0 (fun ρ=>(dV 0) ρ>>=HH) cV (ah 1 cB (aC (dV 0) aN))) aN))))
def eN:List D→M D:=bV 1 (vE)
def rj:DS:=(aB (gq (i6 (cN (bW (dA gK (aC (dV 1) (aC (dC (.raw (.ty "tuple"))) aN))))) (cY (d2 ky (dA aU (aC (dV 1) aN)) (dC (.int 2))))) (bt (dC (.bl false))) cJ) (aB (gq (i6 (cN (bW (ah 1 bq (aC (d2 bu (dV 1) (dC (.int 0))) aN)))) (cN (bW (ah 1 bq (aC (d2 bu (dV 1) (dC (.int 1))) aN))))) (bt (dC (.bl false))) cJ) (bt (eL (vV (fun i j=>decide (i≤j)) (fun i j=>decide (i<j)) (dC (.int 0)) (d2 bu (dV 1) (dC (.int 0))) (dA aU (aC (dV 0) aN))) (vV (fun i j=>decide (i≤j)) (fun i j=>decide (i<j)) (dC (.int 0)) (d2 bu (dV 1) (dC (.int 1))) (dA aU (aC (d2 bu (dV 0) (dC (.int 0))) aN)))))))
def iu:List D→M D:=bV 2 (rj)
def vJ:DS:=(gq (i6 (cN (bW (ah 1 bq (aC (dV 0) aN)))) (cY (d2 (Dy true) (dV 0) (dA dP (aC (dC (.int 4)) (aC (dC (.int 8)) aN)))))) (Ka 1 (aC (dC (.str "ways are 4 or 8")) aN)) cJ)
def bZ:List D→M D:=bV 1 (vJ)
def vC:DS:=(aB (zP 1) (aB (fun ρ=>noex ((dZ (putN 2) (fun ρ=>(aC (dA aU (aC (dV 0) aN)) aN) ρ>>=j2) (cH [2] (Cv 1 (ah 2 aO (aC (dV 0) (aC (dV 2) aN)))))) ρ)) (Cy 1 (bt (dV 1)))))
def eY:List D→M D:=bV 3 (vC)
def tJ:DS:=(aB (zP 3) (aB (fun ρ=>noex ((dZ (putN 4) (fun ρ=>(aC (dA wt (aC (d2 kz (d2 bu (dV 1) (dC (.int 0))) (dC (.int 1))) (aC (dC (.int 0)) aN))) (aC (dA zt (aC (d2 dr (d2 bu (dV 1) (dC (.int 0))) (dC (.int 2))) (aC (dA aU (aC (dV 0) aN)) aN))) aN)) ρ>>=oH) (cH [4,5] (dZ (putN 5) (fun ρ=>(aC (dA wt (aC (d2 kz (d2 bu (dV 1) (dC (.int 1))) (dC (.int 1))) (aC (dC (.int 0)) aN))) (aC (dA zt (aC (d2 dr (d2 bu (dV 1) (dC (.int 1))) (dC (.int 2))) (aC (dA aU (aC (d2 bu (dV 0) (dC (.int 0))) aN)) aN))) aN)) ρ>>=oH) (cH [5] (gq (bW (ah 3 b7 (aC (dV 1) (aC (dA dP (aC (dV 4) (aC (dV 5) aN))) (aC (dV 2) aN))))) (pK 3 (dA dP (aC (dV 4) (aC (dV 5) aN)))) cJ))))) ρ)) (Cy 3 (bt (dV 3)))))
def cO:List D→M D:=bV 6 (tJ)
def md:DS:=(aB (bJ 3 (d2 jt (d2 dr (d2 gJ (d2 jt (ah 2 eO (aC (dV 0) (aC (dV 1) aN))) (dC (.int 2147483563))) (dC (.int 69069))) (d2 gJ (dC (.int 104723)) (d2 dr (dV 1) (dC (.int 1))))) (dC (.int 2147483563)))) (aB (bJ 3 (d2 jt (d2 dr (d2 gJ (dV 3) (dV 3)) (d2 pq (dV 3) (dC (.int 3)))) (dC (.int 2147483399)))) (bt (d2 jt (d2 pq (d2 jt (d2 dr (d2 gJ (dV 3) (dV 3)) (d2 pq (dV 3) (dC (.int 7)))) (dC (.int 2147483647))) (dC (.int 11))) (dV 2)))))
def aQ:List D→M D:=bV 4 (md)
def o4:DS:=(aB (gq (i6 (cN (bW (dA gK (aC (dV 0) (aC (dC (.raw (.ty "tuple"))) aN))))) (cN (cY (vV (fun i j=>decide (i≤j)) (fun i j=>decide (i≤j)) (dC (.int 1)) (dA aU (aC (dV 0) aN)) (dC (.int 8)))))) (bt (dC (.bl false))) cJ) (aB (gq (cN (bW (dA allM (aC (bT 0 (pj (dV 0)) cV (ah 1 eN (aC (dV 0) aN))) aN)))) (bt (dC (.bl false))) cJ) (bt (dA allM (aC (bT 0 (pj (dV 0)) cV (d2 kx (dA aU (aC (dV 0) aN)) (dA aU (aC (d2 bu (dV 1) (dC (.int 0))) aN)))) aN)))))
def f9:List D→M D:=bV 1 (o4)
def vI:DS:=(gq (cN (bW (ah 2 iu (aC (dV 0) (aC (dV 1) aN))))) (Ka 2 (aC (dC (.str "a tuple (row, column) on the board is asked for")) aN)) cJ)
def eZ:List D→M D:=bV 2 (vI)
def tH:DS:=(aB (bJ 3 (ah 2 aT (aC (dV 0) (aC (dV 1) aN)))) (bt (bT 0 (eM (ah 3 cO (aC (dV 0) (aC (dV 1) (aC (dV 2) aN))))) (cY (d2 kx (ah 2 aT (aC (dV 1) (aC (dV 0) aN))) (dV 4))) (dV 0))))
def b8:List D→M D:=bV 4 (tH)
def vF:DS:=(aB (bJ 3 (d2 dr (dC (.int 1)) (ah 3 aQ (aC (dV 0) (aC (dV 1) (aC (dV 2) aN)))))) (aB (bJ 4 (d2 dr (dC (.int 1)) (ah 3 aQ (aC (dV 0) (aC (d2 dr (dV 1) (dC (.int 1))) (aC (dV 2) aN)))))) (aB (bJ 5 (d2 fI (dA fN (aC (dC (.str "ab")) (aC (dC (.str "abc")) (aC (dC (.str "aab")) (aC (dC (.str "fa")) aN))))) (ah 3 aQ (aC (dV 0) (aC (d2 dr (dV 1) (dC (.int 2))) (aC (dC (.int 4)) aN)))))) (aB (bJ 6 (dA dP aN)) (aB (fun ρ=>noex ((dZ (putN 7) (fun ρ=>(aC (dV 3) aN) ρ>>=j2) (cH [7,8] (aB (bJ 8 (bT 0 (fun ρ=>(aC (dV 4) aN) ρ>>=j2) cV (d2 rP (dV 6) (ah 3 aQ (aC (dV 1) (aC (d2 dr (d2 dr (d2 dr (dV 2) (dC (.int 3))) (d2 gJ (dC (.int 7)) (dV 8))) (dV 0)) (aC (dA aU (aC (dV 6) aN)) aN))))))) (bJ 6 (d2 gE (dV 6) (dA dP (aC (dM Jv joinM (dC (.str "")) (aC (dV 8) aN)) aN))))))) ρ)) (bt (dV 6)))))))
def cC:List D→M D:=bV 9 (vF)
def tI:DS:=(gq (cN (bW (ah 1 f9 (aC (dV 0) aN)))) (Ka 0 (aC (dC (.str "a tuple of 1 to 8 texts of 1 to 8 letters, all as long, is asked for")) aN)) cJ)
def aK:List D→M D:=bV 1 (tI)
def tL:DS:=(aB (Cz 3 (fun ρ=>(dV 1) ρ>>=fun x=>(dC .non) ρ>>=fun y=>p6 x y)) (aB (bJ 4 (dA fN (aC (dV 1) aN))) (aB (fun ρ=>noex ((CA (bW (dV 4)) (cH [5,6,7] (aB (zP 5) (aB (dZ (putN 6) (eM (dV 4)) (cH [6,7] (dZ (putN 7) (eM (ah 3 b8 (aC (dV 0) (aC (dV 6) (aC (dV 2) aN))))) (cH [7] (gq (FL (cY (d2 (pw true) (dV 7) (dV 3)))) (aB (gH 3 (dV 7) (dV 6)) (pK 5 (dV 7))) cJ))))) (Cy 5 (bJ 4 (dV 5))))))) ρ)) (Cy 3 (bt (dV 3))))))
def b_:List D→M D:=bV 8 (tL)
def xq:DS:=(aB (gq (cY (d2 ky (dA aU (aC (d2 bu (dV 0) (dC (.int 0))) aN)) (dA aU (aC (d2 bu (dV 1) (dC (.int 0))) aN)))) (Ka 5 (aC (dC (.str "the boards are not as wide")) aN)) cJ) (gq (cY (d2 IH (d2 dr (dA aU (aC (dV 0) aN)) (dA aU (aC (dV 1) aN))) (dC (.int 8)))) (Ka 5 (aC (dC (.str "the boards have more than 8 rows together")) aN)) cJ))
def dS:List D→M D:=bV 2 (xq)
def tK:DS:=(aB (vc 1) (aB (fun ρ=>noex ((dZ (qQ [2,3]) (fun ρ=>(aC (dV 0) aN) ρ>>=xI) (cH [2,3,4] (dZ (putN 4) (eM (dV 3)) (cH [4] (gH 1 (dV 4) (dV 2)))))) ρ)) (Cy 1 (bt (dV 1)))))
def b9:List D→M D:=bV 5 (tK)
def pP:DS:=(bt (ah 3 b7 (aC (dA dP (aC (d1 D7 (dC (.int 1))) (aC (d2 bu (dV 0) (dC (.int 1))) aN))) (aC (dV 1) (aC (dV 2) aN)))))
def ck:List D→M D:=bV 3 (pP)
def vG:DS:=(aB (fv (ah 1 aK (aC (dV 0) aN))) (aB (fv (ah 2 eZ (aC (dV 0) (aC (dV 1) aN)))) (bt (ah 2 aT (aC (dV 0) (aC (dV 1) aN))))))
def bY:List D→M D:=bV 2 (vG)
def xp:DS:=(aB (fv (ah 1 aK (aC (dV 0) aN))) (bt (dA CV (aC (bT 0 (pj (dV 0)) cV (FY (dV 0) (d1 D7 (dC (.int 1))))) aN))))
def cE:List D→M D:=bV 1 (xp)
def z8:DS:=(aB (fv (ah 1 aK (aC (dV 0) aN))) (aB (fv (ah 1 aK (aC (dV 1) aN))) (aB (fv (ah 2 dS (aC (dV 0) (aC (dV 1) aN)))) (bt (d2 gE (dV 0) (dV 1))))))
def eG:List D→M D:=bV 2 (z8)
def pO:DS:=(aB (zP 2) (aB (vc 3) (aB (fun ρ=>noex ((dZ (putN 4) (eM (ah 1 eY (aC (dV 0) aN))) (cH [4,5] (gq (FL (cY (d2 (pw true) (dV 4) (dV 3)))) (aB (bJ 5 (dA oQ (aC (ah 3 b_ (aC (dV 0) (aC (dV 4) (aC (dV 1) aN)))) aN))) (aB (pK 2 (dV 5)) (zQ 3 (ah 1 jm (aC (dV 5) aN))))) cJ))) ρ)) (Cy 2 (bt (dV 2))))))
def aD:List D→M D:=bV 6 (pO)
def kh:DS:=(aB (fv (ah 1 aK (aC (dV 0) aN))) (aB (fv (ah 1 aK (aC (dV 1) aN))) (aB (fv (ah 1 bZ (aC (dV 2) aN))) (fv (ah 2 dS (aC (dV 0) (aC (dV 1) aN)))))))
def a7:List D→M D:=bV 3 (kh)
def z7:DS:=(aB (fv (ah 1 aK (aC (dV 0) aN))) (aB (fv (ah 1 bZ (aC (dV 1) aN))) (bt (ah 2 aD (aC (dV 0) (aC (dV 1) aN))))))
def bL:List D→M D:=bV 2 (z7)
def xn:DS:=(aB (fv (ah 1 aK (aC (dV 0) aN))) (aB (fv (ah 1 bZ (aC (dV 1) aN))) (bt (dA aU (aC (ah 2 aD (aC (dV 0) (aC (dV 1) aN))) aN)))))
def bG:List D→M D:=bV 2 (xn)
def HV:DS:=(aB (fv (ah 3 a7 (aC (dV 0) (aC (dV 1) (aC (dV 2) aN))))) (aB (bJ 3 (ah 1 b9 (aC (ah 2 aD (aC (dV 0) (aC (dV 2) aN))) aN))) (aB (bJ 4 (ah 1 b9 (aC (ah 2 aD (aC (dV 1) (aC (dV 2) aN))) aN))) (aB (vc 5) (aB (fun ρ=>noex ((dZ (putN 6) (eM (ah 2 aO (aC (dV 0) (aC (d2 kz (dA aU (aC (dV 0) aN)) (dC (.int 1))) aN)))) (cH [6,7] (dZ (putN 7) (eM (ah 2 aO (aC (dV 1) (aC (dC (.int 0)) aN)))) (cH [7] (gq (ph (cY (d2 kx (ah 2 aT (aC (dV 0) (aC (dV 6) aN))) (ah 2 aT (aC (dV 1) (aC (dV 7) aN))))) (bW (ah 3 ck (aC (dV 6) (aC (dV 7) (aC (dV 2) aN)))))) (gH 5 (dA dP (aC (d2 v9 (dV 3) (dV 6)) (aC (d2 v9 (dV 4) (dV 7)) aN))) (dC (.bl true))) cJ))))) ρ)) (Cy 5 (bt (dA oQ (aC (dV 5) aN)))))))))
def f_:List D→M D:=bV 8 (HV)
def iO:DS:=(aB (fv (ah 3 a7 (aC (dV 0) (aC (dV 1) (aC (dV 2) aN))))) (bt (dA aU (aC (ah 2 aD (aC (d2 gE (dV 0) (dV 1)) (aC (dV 2) aN))) aN))))
def aP:List D→M D:=bV 3 (iO)
def lq:DS:=(aB (fv (ah 3 a7 (aC (dV 0) (aC (dV 1) (aC (dV 2) aN))))) (bt (dA q_ (aC (bT 0 (eM (ah 2 aD (aC (d2 gE (dV 0) (dV 1)) (aC (dV 2) aN)))) cV (dA aU (aC (dV 0) aN))) aN))))
def bb:List D→M D:=bV 3 (lq)
def me:DS:=(bJ 1 (ah 3 cC (aC (dV 0) (aC (dC (.int 0)) (aC (dC (.int 5)) aN)))))
def mf:DS:=(bJ 1 (d2 gE (dV 1) (yT (dV 1) oN (oS (dC (.int 1))))))
def mh:DS:=(bJ 2 (d2 fI (dA fN (aC (dC (.int 4)) (aC (dC (.int 8)) aN))) (ah 3 aQ (aC (dV 0) (aC (dC (.int 60)) (aC (dC (.int 2)) aN))))))
def mi:DS:=(bJ 3 (dA q_ (aC (bT 0 (eM (ah 2 bL (aC (dV 1) (aC (dV 2) aN)))) cV (dA aU (aC (dV 0) aN))) aN)))
def mj:DS:=(gq (cY (d2 ky (dA yx (aC (dV 3) aN)) (d2 gJ (dA aU (aC (dV 1) aN)) (dA aU (aC (d2 bu (dV 1) (dC (.int 0))) aN))))) (bt (dC (.bl false))) cJ)
def ml:DS:=(fun ρ=>noex ((dZ (putN 4) (fun ρ=>(aC (dC (.int 1)) (aC (dA aU (aC (dV 1) aN)) aN)) ρ>>=oH) (cH [4,5,6,7,8,9,10,11,12,13] (aB (bJ 5 (yT (dV 1) oN (oS (dV 4)))) (aB (bJ 6 (yT (dV 1) (oS (dV 4)) oN)) (aB (bJ 7 (ah 3 f_ (aC (dV 5) (aC (dV 6) (aC (dV 2) aN))))) (aB (bJ 8 (d2 dr (ah 2 bG (aC (dV 5) (aC (dV 2) aN))) (ah 2 bG (aC (dV 6) (aC (dV 2) aN))))) (aB (bJ 9 (ah 3 aP (aC (dV 5) (aC (dV 6) (aC (dV 2) aN))))) (aB (gq (i6 (cY (d2 ky (ah 2 eG (aC (dV 5) (aC (dV 6) aN))) (dV 1))) (i6 (cY (d2 ky (dV 9) (ah 2 bG (aC (dV 1) (aC (dV 2) aN))))) (cY (d2 ky (ah 3 bb (aC (dV 5) (aC (dV 6) (aC (dV 2) aN)))) (dV 3))))) (bt (dC (.bl false))) cJ) (aB (gq (i6 (cY (d2 Ku (dV 9) (d2 kz (dV 8) (dA aU (aC (dV 7) aN))))) (i6 (ph (cY (d2 kx (dV 7) (dA fN aN))) (cY (d2 ky (dV 9) (dV 8)))) (ph (cY (d2 IH (dA aU (aC (dV 7) aN)) (dC (.int 0)))) (cY (d2 Kt (dV 9) (dV 8)))))) (bt (dC (.bl false))) cJ) (aB (gq (i6 (cY (d2 ky (dA aU (aC (ah 3 f_ (aC (ah 1 cE (aC (dV 5) aN)) (aC (ah 1 cE (aC (dV 6) aN)) (aC (dV 2) aN)))) aN)) (dA aU (aC (dV 7) aN)))) (cY (d2 ky (dV 7) (d1 iI (dV 7))))) (bt (dC (.bl false))) cJ) (aB (bJ 10 (ah 2 bL (aC (dV 5) (aC (dV 2) aN)))) (aB (bJ 11 (ah 2 bL (aC (dV 6) (aC (dV 2) aN)))) (dZ (qQ [12,13]) (eM (dV 7)) (cH [12,13] (gq (cY (d2 ky (ah 2 bY (aC (dV 5) (aC (d2 fI (d2 fI (dV 10) (dV 12)) (dC (.int 0))) aN))) (ah 2 bY (aC (dV 6) (aC (d2 fI (d2 fI (dV 11) (dV 13)) (dC (.int 0))) aN))))) (bt (dC (.bl false))) cJ))))))))))))))) ρ))
def mm:DS:=(bJ 14 (dA dP (aC (dC (.str "bbbbba")) (aC (dC (.str "aaabba")) (aC (dC (.str "abaaaa")) aN)))))
def mn:DS:=(bJ 3 (dA q_ (aC (bT 0 (eM (ah 2 bL (aC (dV 14) (aC (dC (.int 4)) aN)))) cV (dA aU (aC (dV 0) aN))) aN)))
def mq:DS:=(gq (cY (d2 ky (ah 3 aP (aC (yT (dV 14) oN (oS (dC (.int 2)))) (aC (yT (dV 14) (oS (dC (.int 2))) oN) (aC (dC (.int 4)) aN)))) (dA aU (aC (dV 3) aN)))) (bt (dC (.bl false))) cJ)
def mr:DS:=(bt (d2 kx (ah 3 bb (aC (yT (dV 14) oN (oS (dC (.int 2)))) (aC (yT (dV 14) (oS (dC (.int 2))) oN) (aC (dC (.int 4)) aN)))) (dV 3)))
def ll:DS:=(aB me (aB mf (aB mh (aB mi (aB mj (aB ml (aB mm (aB mn (aB mq mr)))))))))
def iw:List D→M D:=bV 15 ll
structure Bl (K:W.Frag) (mg:Str→Option Value) (base:Heap) (cv:Nat→Value) (cA:Nat→Addr) (Cp:Addr):Prop where
 len:mg "len"=none
 isinstance:mg "isinstance"=none
 all:mg "all"=none
 abs:mg "abs"=none
 max:mg "max"=none
 min:mg "min"=none
 sum:mg "sum"=none
 range:mg "range"=none
 str:mg "str"=none
 int:mg "int"=none
 bool:mg "bool"=none
 tuple:mg "tuple"=none
 set:mg "set"=none
 sorted:mg "sorted"=none
 enumerate:mg "enumerate"=none
 LETTERS:∃t,mg "LETTERS"=some (.str "abcdef" t)
 MOST_ROWS:∃t,mg "MOST_ROWS"=some (.int 8 t)
 MOST_COLUMNS:∃t,mg "MOST_COLUMNS"=some (.int 8 t)
section
variable{P:Program}{w:World}{K:W.Frag}{mg:Str→Option Value}{base:Heap}{cv:Nat→Value}{cA:Nat→Addr}{Cp:Addr}{f:Addr}
abbrev jd:Stmt:=top 10
def nR:List Str:=["thing"]
def og:List Str:=["thing"]
theorem vh:FnScope nR og (af jd):=⟨rfl,rfl,rfl,by decide+kernel,rfl,by decide+kernel,by decide+kernel⟩
theorem uQ(B:Bl K mg base cv cA Cp)(T:bw K mg "is_whole" jd f):ai P w K mg base cv 1 "is_whole" 1 (bq):=
 az (N:=nR) (ps:=og) T vh (fun _ _ _ _ _ _ us hl=>match us,hl with | [_],_=>rfl) fun bC A outer s H E hr=>
  (ao (aA (sA (kN rfl B.isinstance rfl (aa (ab (pv 0)) (aa (qM rfl B.int rfl) ae))) (wQ (Hd (kN rfl B.isinstance rfl (aa (ab (pv 0)) (aa (qM rfl B.bool rfl) ae))))))))
abbrev hJ:Stmt:=top 11
def lN:List Str:=["thing"]
def lV:List Str:=["thing"]
theorem sT:FnScope lN lV (af hJ):=⟨rfl,rfl,rfl,by decide+kernel,rfl,by decide+kernel,by decide+kernel⟩
theorem sj(B:Bl K mg base cv cA Cp)(T:bw K mg "is_letter" hJ f):ai P w K mg base cv 1 "is_letter" 1 (cB):=
 az (N:=lN) (ps:=lV) T sT (fun _ _ _ _ _ _ us hl=>match us,hl with | [_],_=>rfl) fun bC A outer s H E hr=>
  (ao (aA (sA (kN rfl B.isinstance rfl (aa (ab (pv 0)) (aa (qM rfl B.str rfl) ae))) (sA (uY hr.units (aZ rfl B.len (aa (ab (pv 0)) ae)) ar) (wQ (Ha (ab (pv 0)) (Em rfl B.LETTERS (by decide))))))))
abbrev jf:Stmt:=top 18
def nT:List Str:=["one","other"]
def oq:List Str:=["one","other"]
theorem vk:FnScope nT oq (af jf):=⟨rfl,rfl,rfl,by decide+kernel,rfl,by decide+kernel,by decide+kernel⟩
theorem uT(B:Bl K mg base cv cA Cp)(T:bw K mg "need_fit" jf f):ai P w K mg base cv 1 "need_fit" 2 (dS):=
 az (N:=nT) (ps:=oq) T vk (fun _ _ _ _ _ _ us hl=>match us,hl with | [_,_],_=>rfl) fun bC A outer s H E hr=>
  (ag (bK (g6 hr.units (aZ rfl B.len (aa (bH (ab (pv 0)) ar) ae)) (aZ rfl B.len (aa (bH (ab (pv 1)) ar) ae))) (ao fR) bo) (ao (bK (FI (cG (aZ rfl B.len (aa (ab (pv 0)) ae)) (aZ rfl B.len (aa (ab (pv 1)) ae))) (sD rfl B.MOST_ROWS)) (ao fR) bo)))
abbrev dH:Stmt:=top 19
def dD:List Str:=["board","row"]
def gY:List Str:=["board","row"]
theorem mB:FnScope dD gY (af dH):=⟨rfl,rfl,rfl,by decide+kernel,rfl,by decide+kernel,by decide+kernel⟩
theorem my(B:Bl K mg base cv cA Cp)(T:bw K mg "cells_of_row" dH f):ai P w K mg base cv 1 "cells_of_row" 2 (aO):=
 az (N:=dD) (ps:=gY) T mB (fun _ _ _ _ _ _ us hl=>match us,hl with | [_,_],_=>rfl) fun bC A outer s H E hr=>
  (ao (aA (eC (tn:=["column"]) (n:=0) (cj (N:=dD) (osc:=(af dH)) rfl rfl (by decide+kernel)) rfl rfl (gn rfl B.range (aa (aZ rfl B.len (aa (bH (ab (pv 0)) ar) ae)) ae)) (fun _ _ _ _ _ _ _=>d7 (show List.Nodup (((["column"]:List Str))++dz ["column"] dD) by decide+kernel) rfl rfl) (fun _ _ _ _ _ _=>dJ) (fun _ _ _ _ _ _=>(gm (aa (ab (pv 2)) (aa (ab (pv 0)) ae)))))))
abbrev h7:Stmt:=top 21
def lQ:List Str:=["board","cell"]
def lZ:List Str:=["board","cell"]
theorem sV:FnScope lQ lZ (af h7):=⟨rfl,rfl,rfl,by decide+kernel,rfl,by decide+kernel,by decide+kernel⟩
theorem sq(B:Bl K mg base cv cA Cp)(T:bw K mg "letter_of" h7 f):ai P w K mg base cv 1 "letter_of" 2 (aT):=
 az (N:=lQ) (ps:=lZ) T sV (fun _ _ _ _ _ _ us hl=>match us,hl with | [_,_],_=>rfl) fun bC A outer s H E hr=>
  (ao (aA (BU (bH (ab (pv 0)) (bH (ab (pv 1)) ar)) (bH (ab (pv 1)) ar))))
abbrev jb:Stmt:=top 22
def nP:List Str:=["one","other","ways","down","along"]
def n9:List Str:=["one","other","ways"]
theorem ig:FnScope nP n9 (af jb):=⟨rfl,rfl,rfl,by decide+kernel,rfl,by decide+kernel,by decide+kernel⟩
theorem uN(B:Bl K mg base cv cA Cp)(T:bw K mg "are_next" jb f):ai P w K mg base cv 1 "are_next" 3 (b7):=
 az (N:=nP) (ps:=n9) T ig (fun _ _ _ _ _ _ us hl=>match us,hl with | [_,_,_],_=>rfl) fun bC A outer s H E hr=>
  (ag (aS ig.nd rfl (by first | exact .inl rfl | exact .inr rfl) (BP rfl B.abs (aa (kQ (bH (ab (pv 0)) ar) (bH (ab (pv 1)) ar)) ae) rfl)) (ag (aS ig.nd rfl (by first | exact .inl rfl | exact .inr rfl) (BP rfl B.abs (aa (kQ (bH (ab (pv 0)) ar) (bH (ab (pv 1)) ar)) ae) rfl)) (ag (bK (u4 hr.units (ab (pv 2)) ar) (ao (aA (uY hr.units (cG (ab (pv 3)) (ab (pv 4))) ar))) bo) (ao (aA (uY hr.units (wO rfl rfl B.max rfl (aa (ab (pv 3)) (aa (ab (pv 4)) ae))) ar))))))
abbrev sS:Stmt:=top 24
def yd:List Str:=["things","found","thing"]
def yk:List Str:=["things"]
theorem oI:FnScope yd yk (af sS):=⟨rfl,rfl,rfl,by decide+kernel,rfl,by decide+kernel,by decide+kernel⟩
theorem BH(B:Bl K mg base cv cA Cp)(T:bw K mg "keyed" sS f):ai P w K mg base cv 1 "keyed" 1 (jm):=
 az (N:=yd) (ps:=yk) T oI (fun _ _ _ _ _ _ us hl=>match us,hl with | [_],_=>rfl) fun bC A outer s H E hr=>
  (ag (jX oI.nd rfl (by first | exact .inl rfl | exact .inr rfl)) (ag (eD (cy PassesOwn.never rfl (Eo (cb (ab (pv 0))) (BZ (ab (pv 0)))) (bx oI.nd rfl (by first | exact .inl rfl | exact .inr rfl)) cf (bI (ao (jY hr.units (pv 1) (ab (pv 2)) fP))))) (ao (fk (i:=1) (aA (ab (pv 1)))))))
abbrev gx:Stmt:=top 32
def jJ:List Str:=["found","numbers","number","patch","cell"]
def jS:List Str:=["found"]
theorem c_:FnScope jJ jS (af gx):=⟨rfl,rfl,rfl,by decide+kernel,rfl,by decide+kernel,by decide+kernel⟩
theorem pH(B:Bl K mg base cv cA Cp)(T:bw K mg "numbers_of" gx f):ai P w K mg base cv 1 "numbers_of" 1 (b9):=
 az (N:=jJ) (ps:=jS) T c_ (fun _ _ _ _ _ _ us hl=>match us,hl with | [_],_=>rfl) fun bC A outer s H E hr=>
  (ag (jX c_.nd rfl (by first | exact .inl rfl | exact .inr rfl)) (ag (eD (cy PassesOwn.never rfl (BY rfl B.enumerate (aa (ab (pv 0)) ae)) (B7 rfl (jW (bx c_.nd rfl (by first | exact .inl rfl | exact .inr rfl)) (jW (bx c_.nd rfl (by first | exact .inl rfl | exact .inr rfl)) yo))) (yq (is:=[2,3])) (bI (ao (cy PassesOwn.never rfl (cb (ab (pv 3))) (bx c_.nd rfl (by first | exact .inl rfl | exact .inr rfl)) cf (bI (ao (jY hr.units (pv 1) (ab (pv 4)) (ab (pv 2)))))))))) (ao (fk (i:=1) (aA (ab (pv 1)))))))
abbrev je:Stmt:=top 42
def nS:List Str:=["_law_script","_law_k"]
def oj:List Str:=["_law_script","_law_k"]
theorem vi:FnScope nS oj (af je):=⟨rfl,rfl,rfl,by decide+kernel,rfl,by decide+kernel,by decide+kernel⟩
theorem uR(B:Bl K mg base cv cA Cp)(T:bw K mg "_law_cell" je f):ai P w K mg base cv 1 "_law_cell" 2 (eO):=
 az (N:=nS) (ps:=oj) T vi (fun _ _ _ _ _ _ us hl=>match us,hl with | [_,_],_=>rfl) fun bC A outer s H E hr=>
  (ag (bK (u4 hr.units (ab (pv 0)) (ou ae)) (ao (aA (gZ ar (ab (pv 1))))) bo) (ao (aA (cG (Hb (ab (pv 0)) (kP (ab (pv 1)) (aZ rfl B.len (aa (ab (pv 0)) ae)))) (gZ ar (sC (ab (pv 1)) (aZ rfl B.len (aa (ab (pv 0)) ae))))))))
abbrev j5:Stmt:=top 12
def jG:List Str:=["thing"]
def uW:List Str:=["thing"]
theorem zR:FnScope jG uW (af j5):=⟨rfl,rfl,rfl,by decide+kernel,rfl,by decide+kernel,by decide+kernel⟩
theorem zA(B:Bl K mg base cv cA Cp)(tU:ai P w K mg base cv 1 "is_letter" 1 cB)(T:bw K mg "is_row" j5 f):ai P w K mg base cv 2 "is_row" 1 (eN):=
 az (N:=jG) (ps:=uW) T zR (fun _ _ _ _ _ _ us hl=>match us,hl with | [_],_=>rfl) fun bC A outer s H E hr=>
  (ag (bK (PDW.t (fq (dG (df (kN rfl B.isinstance rfl (aa (ab (pv 0)) (aa (qM rfl B.str rfl) ae))))) (fj (dG (Ce qD qD ar (aZ rfl B.len (aa (ab (pv 0)) ae)) (sD rfl B.MOST_COLUMNS)))))) (ao (aA fP)) bo) (ao (aA (wN rfl rfl B.all rfl (aa (eC (tn:=["sign"]) (n:=0) (cj (N:=jG) (osc:=(af j5)) rfl rfl (by decide+kernel)) rfl rfl (Ep (ab (pv 0))) (fun _ _ _ _ _ _ _=>d7 (show List.Nodup (((["sign"]:List Str))++dz ["sign"] jG) by decide+kernel) rfl rfl) (fun _ _ _ _ _ _=>dJ) (fun _ _ _ _ _ _=>(aR tU (hr.mono (by decide)) rfl bN (aa (ab (pv 0)) ae) rfl))) ae)))))
abbrev k7:Stmt:=top 14
def qy:List Str:=["board","thing"]
def qH:List Str:=["board","thing"]
theorem wY:FnScope qy qH (af k7):=⟨rfl,rfl,rfl,by decide+kernel,rfl,by decide+kernel,by decide+kernel⟩
theorem wF(B:Bl K mg base cv cA Cp)(f6:ai P w K mg base cv 1 "is_whole" 1 bq)(T:bw K mg "is_cell" k7 f):ai P w K mg base cv 2 "is_cell" 2 (iu):=
 az (N:=qy) (ps:=qH) T wY (fun _ _ _ _ _ _ us hl=>match us,hl with | [_,_],_=>rfl) fun bC A outer s H E hr=>
  (ag (bK (PDW.t (fq (dG (df (kN rfl B.isinstance rfl (aa (ab (pv 1)) (aa (qM rfl B.tuple rfl) ae))))) (fj (g6 hr.units (aZ rfl B.len (aa (ab (pv 1)) ae)) ar)))) (ao (aA fP)) bo) (ag (bK (PDW.t (fq (dG (df (aR f6 (hr.mono (by decide)) rfl a9 (aa (bH (ab (pv 1)) ar) ae) rfl))) (fj (dG (df (aR f6 (hr.mono (by decide)) rfl a9 (aa (bH (ab (pv 1)) ar) ae) rfl)))))) (ao (aA fP)) bo) (ao (aA (sA (BQ qD BK ar (bH (ab (pv 1)) ar) (aZ rfl B.len (aa (ab (pv 0)) ae))) (wQ (BQ qD BK ar (bH (ab (pv 1)) ar) (aZ rfl B.len (aa (bH (ab (pv 0)) ar) ae)))))))))
abbrev ie:Stmt:=top 17
def lS:List Str:=["thing"]
def l6:List Str:=["thing"]
theorem sX:FnScope lS l6 (af ie):=⟨rfl,rfl,rfl,by decide+kernel,rfl,by decide+kernel,by decide+kernel⟩
theorem su(B:Bl K mg base cv cA Cp)(f6:ai P w K mg base cv 1 "is_whole" 1 bq)(T:bw K mg "need_ways" ie f):ai P w K mg base cv 2 "need_ways" 1 (bZ):=
 az (N:=lS) (ps:=l6) T sX (fun _ _ _ _ _ _ us hl=>match us,hl with | [_],_=>rfl) fun bC A outer s H E hr=>
  (ao (bK (PDW.t (fq (dG (df (aR f6 (hr.mono (by decide)) rfl a9 (aa (ab (pv 0)) ae) rfl))) (fj (zO (ab (pv 0)) (gm (aa ar (aa ar ae))))))) (ao fR) bo))
abbrev g_:Stmt:=top 20
def lM:List Str:=["board","found","row"]
def lU:List Str:=["board"]
theorem gz:FnScope lM lU (af g_):=⟨rfl,rfl,rfl,by decide+kernel,rfl,by decide+kernel,by decide+kernel⟩
theorem si(B:Bl K mg base cv cA Cp)(du:ai P w K mg base cv 1 "cells_of_row" 2 aO)(T:bw K mg "all_cells" g_ f):ai P w K mg base cv 2 "all_cells" 1 (eY):=
 az (N:=lM) (ps:=lU) T gz (fun _ _ _ _ _ _ us hl=>match us,hl with | [_],_=>rfl) fun bC A outer s H E hr=>
  (ag (mK gz.nd rfl (by first | exact .inl rfl | exact .inr rfl)) (ag (eD (cy PassesOwn.never rfl (gn rfl B.range (aa (aZ rfl B.len (aa (ab (pv 0)) ae)) ae)) (bx gz.nd rfl (by first | exact .inl rfl | exact .inr rfl)) cf (bI (ao (ED (pv 1) (aR du (hr.mono (by decide)) rfl bN (aa (ab (pv 0)) (aa (ab (pv 2)) ae)) rfl)))))) (ao (fk (i:=1) (aA (ab (pv 1)))))))
abbrev gw:Stmt:=top 23
def jI:List Str:=["board","cell","ways","found","row","column"]
def jR:List Str:=["board","cell","ways"]
theorem d6:FnScope jI jR (af gw):=⟨rfl,rfl,rfl,by decide+kernel,rfl,by decide+kernel,by decide+kernel⟩
theorem pG(B:Bl K mg base cv cA Cp)(iZ:ai P w K mg base cv 1 "are_next" 3 b7)(T:bw K mg "next_cells" gw f):ai P w K mg base cv 2 "next_cells" 3 (cO):=
 az (N:=jI) (ps:=jR) T d6 (fun _ _ _ _ _ _ us hl=>match us,hl with | [_,_,_],_=>rfl) fun bC A outer s H E hr=>
  (ag (mK d6.nd rfl (by first | exact .inl rfl | exact .inr rfl)) (ag (eD (cy PassesOwn.never rfl (ja rfl B.range (aa (wO rfl rfl B.max rfl (aa (kQ (bH (ab (pv 1)) ar) ar) (aa ar ae))) (aa (BV rfl rfl B.min rfl (aa (cG (bH (ab (pv 1)) ar) ar) (aa (aZ rfl B.len (aa (ab (pv 0)) ae)) ae))) ae))) (bx d6.nd rfl (by first | exact .inl rfl | exact .inr rfl)) cf (bI (ao (cy PassesOwn.never rfl (ja rfl B.range (aa (wO rfl rfl B.max rfl (aa (kQ (bH (ab (pv 1)) ar) ar) (aa ar ae))) (aa (BV rfl rfl B.min rfl (aa (cG (bH (ab (pv 1)) ar) ar) (aa (aZ rfl B.len (aa (bH (ab (pv 0)) ar) ae)) ae))) ae))) (bx d6.nd rfl (by first | exact .inl rfl | exact .inr rfl)) cf (bI (ao (bK (df (aR iZ (hr.mono (by decide)) rfl bN (aa (ab (pv 1)) (aa (gm (aa (ab (pv 4)) (aa (ab (pv 5)) ae))) (aa (ab (pv 2)) ae))) rfl)) (ao (sI (pv 3) (gm (aa (ab (pv 4)) (aa (ab (pv 5)) ae))))) bo)))))))) (ao (fk (i:=3) (aA (ab (pv 3)))))))
abbrev fB:Stmt:=top 37
def iT:List Str:=["above","below","ways"]
def iV:List Str:=["above","below","ways"]
theorem oJ:FnScope iT iV (af fB):=⟨rfl,rfl,rfl,by decide+kernel,rfl,by decide+kernel,by decide+kernel⟩
theorem n8(B:Bl K mg base cv cA Cp)(iZ:ai P w K mg base cv 1 "are_next" 3 b7)(T:bw K mg "meets_below" fB f):ai P w K mg base cv 2 "meets_below" 3 (ck):=
 az (N:=iT) (ps:=iV) T oJ (fun _ _ _ _ _ _ us hl=>match us,hl with | [_,_,_],_=>rfl) fun bC A outer s H E hr=>
  (ao (aA (aR iZ (hr.mono (by decide)) rfl a9 (aa (gm (aa (BW ar) (aa (bH (ab (pv 0)) ar) ae))) (aa (ab (pv 1)) (aa (ab (pv 2)) ae))) rfl)))
abbrev hX:Stmt:=top 43
def lO:List Str:=["_law_script","_law_k","_law_many","_law_cell_here"]
def lX:List Str:=["_law_script","_law_k","_law_many"]
theorem gA:FnScope lO lX (af hX):=⟨rfl,rfl,rfl,by decide+kernel,rfl,by decide+kernel,by decide+kernel⟩
theorem sm(B:Bl K mg base cv cA Cp)(vU:ai P w K mg base cv 1 "_law_cell" 2 eO)(T:bw K mg "_law_drawn" hX f):ai P w K mg base cv 2 "_law_drawn" 3 (aQ):=
 az (N:=lO) (ps:=lX) T gA (fun _ _ _ _ _ _ us hl=>match us,hl with | [_,_,_],_=>rfl) fun bC A outer s H E hr=>
  (ag (aS gA.nd rfl (by first | exact .inl rfl | exact .inr rfl) (kP (cG (gZ (kP (aR vU (hr.mono (by decide)) rfl a9 (aa (ab (pv 0)) (aa (ab (pv 1)) ae)) rfl) ar) ar) (gZ ar (cG (ab (pv 1)) ar))) ar)) (ag (aS gA.nd rfl (by first | exact .inl rfl | exact .inr rfl) (kP (cG (gZ (ab (pv 3)) (ab (pv 3))) (sC (ab (pv 3)) ar)) ar)) (ao (aA (kP (sC (kP (cG (gZ (ab (pv 3)) (ab (pv 3))) (sC (ab (pv 3)) ar)) ar) ar) (ab (pv 2)))))))
abbrev eT:Stmt:=top 13
def dX:List Str:=["thing"]
def oe:List Str:=["thing"]
theorem vg:FnScope dX oe (af eT):=⟨rfl,rfl,rfl,by decide+kernel,rfl,by decide+kernel,by decide+kernel⟩
theorem uP(B:Bl K mg base cv cA Cp)(Au:ai P w K mg base cv 2 "is_row" 1 eN)(T:bw K mg "is_board" eT f):ai P w K mg base cv 3 "is_board" 1 (f9):=
 az (N:=dX) (ps:=oe) T vg (fun _ _ _ _ _ _ us hl=>match us,hl with | [_],_=>rfl) fun bC A outer s H E hr=>
  (ag (bK (PDW.t (fq (dG (df (kN rfl B.isinstance rfl (aa (ab (pv 0)) (aa (qM rfl B.tuple rfl) ae))))) (fj (dG (Ce qD qD ar (aZ rfl B.len (aa (ab (pv 0)) ae)) (sD rfl B.MOST_ROWS)))))) (ao (aA fP)) bo) (ag (bK (dG (df (wN rfl rfl B.all rfl (aa (eC (tn:=["row"]) (n:=0) (cj (N:=dX) (osc:=(af eT)) rfl rfl (by decide+kernel)) rfl rfl (sF (ab (pv 0))) (fun _ _ _ _ _ _ _=>d7 (show List.Nodup (((["row"]:List Str))++dz ["row"] dX) by decide+kernel) rfl rfl) (fun _ _ _ _ _ _=>dJ) (fun _ _ _ _ _ _=>(aR Au (hr.mono (by decide)) rfl bN (aa (ab (pv 0)) ae) rfl))) ae)))) (ao (aA fP)) bo) (ao (aA (wN rfl rfl B.all rfl (aa (eC (tn:=["row"]) (n:=0) (cj (N:=dX) (osc:=(af eT)) rfl rfl (by decide+kernel)) rfl rfl (sF (ab (pv 0))) (fun _ _ _ _ _ _ _=>d7 (show List.Nodup (((["row"]:List Str))++dz ["row"] dX) by decide+kernel) rfl rfl) (fun _ _ _ _ _ _=>dJ) (fun _ _ _ _ _ _=>(uY hr.units (aZ rfl B.len (aa (ab (pv 0)) ae)) (aZ rfl B.len (aa (bH (ab (pv 1)) ar) ae))))) ae))))))
abbrev h9:Stmt:=top 16
def lR:List Str:=["board","thing"]
def l5:List Str:=["board","thing"]
theorem sW:FnScope lR l5 (af h9):=⟨rfl,rfl,rfl,by decide+kernel,rfl,by decide+kernel,by decide+kernel⟩
theorem sr(B:Bl K mg base cv cA Cp)(yK:ai P w K mg base cv 2 "is_cell" 2 iu)(T:bw K mg "need_cell" h9 f):ai P w K mg base cv 3 "need_cell" 2 (eZ):=
 az (N:=lR) (ps:=l5) T sW (fun _ _ _ _ _ _ us hl=>match us,hl with | [_,_],_=>rfl) fun bC A outer s H E hr=>
  (ao (bK (dG (df (aR yK (hr.mono (by decide)) rfl a9 (aa (ab (pv 0)) (aa (ab (pv 1)) ae)) rfl))) (ao fR) bo))
abbrev eE:Stmt:=top 29
def eB:List Str:=["board","cell","ways","letter"]
def jP:List Str:=["board","cell","ways"]
theorem iW:FnScope eB jP (af eE):=⟨rfl,rfl,rfl,by decide+kernel,rfl,by decide+kernel,by decide+kernel⟩
theorem pE(B:Bl K mg base cv cA Cp)(cz:ai P w K mg base cv 1 "letter_of" 2 aT)(rA:ai P w K mg base cv 2 "next_cells" 3 cO)(T:bw K mg "like_cells" eE f):ai P w K mg base cv 3 "like_cells" 3 (b8):=
 az (N:=eB) (ps:=jP) T iW (fun _ _ _ _ _ _ us hl=>match us,hl with | [_,_,_],_=>rfl) fun bC A outer s H E hr=>
  (ag (aS iW.nd rfl (by first | exact .inl rfl | exact .inr rfl) (aR cz (hr.mono (by decide)) rfl a9 (aa (ab (pv 0)) (aa (ab (pv 1)) ae)) rfl)) (ao (aA (eC (tn:=["near"]) (n:=0) (cj (N:=eB) (osc:=(af eE)) rfl rfl (by decide+kernel)) rfl rfl (cb (aR rA (hr.mono (by decide)) rfl a9 (aa (ab (pv 0)) (aa (ab (pv 1)) (aa (ab (pv 2)) ae))) rfl)) (fun _ _ _ _ _ _ _=>d7 (show List.Nodup (((["near"]:List Str))++dz ["near"] eB) by decide+kernel) rfl rfl) (fun _ _ _ _ _ _=>(CU (u4 hr.units (aR cz (hr.mono (by decide)) rfl bN (aa (ab (pv 1)) (aa (ab (pv 0)) ae)) rfl) (ab (pv 4))))) (fun _ _ _ _ _ _=>(ab (pv 0)))))))
abbrev fo:Stmt:=top 44
def e_:List Str:=["_law_script","_law_at","_law_most","_law_rows","_law_wide","_law_alphabet","_law_found","_law_row","_law_signs"]
def lW:List Str:=["_law_script","_law_at","_law_most"]
theorem bP:FnScope e_ lW (af fo):=⟨rfl,rfl,rfl,by decide+kernel,rfl,by decide+kernel,by decide+kernel⟩
set_option maxHeartbeats 4000000 in
theorem sk(B:Bl K mg base cv cA Cp)(bX:ai P w K mg base cv 2 "_law_drawn" 3 aQ)(T:bw K mg "_law_board" fo f):ai P w K mg base cv 3 "_law_board" 3 (cC):=
 az (N:=e_) (ps:=lW) T bP (fun _ _ _ _ _ _ us hl=>match us,hl with | [_,_,_],_=>rfl) fun bC A outer s H E hr=>
  (ag (aS bP.nd rfl (by first | exact .inl rfl | exact .inr rfl) (cG ar (aR bX (hr.mono (by decide)) rfl a9 (aa (ab (pv 0)) (aa (ab (pv 1)) (aa (ab (pv 2)) ae))) rfl))) (ag (aS bP.nd rfl (by first | exact .inl rfl | exact .inr rfl) (cG ar (aR bX (hr.mono (by decide)) rfl a9 (aa (ab (pv 0)) (aa (cG (ab (pv 1)) ar) (aa (ab (pv 2)) ae))) rfl))) (ag (aS bP.nd rfl (by first | exact .inl rfl | exact .inr rfl) (kO (ou (aa g0 (aa g0 (aa g0 (aa g0 ae))))) (aR bX (hr.mono (by decide)) rfl a9 (aa (ab (pv 0)) (aa (cG (ab (pv 1)) ar) (aa ar ae))) rfl))) (ag (aS bP.nd rfl (by first | exact .inl rfl | exact .inr rfl) (gm ae)) (ag (eD (cy PassesOwn.never rfl (gn rfl B.range (aa (ab (pv 3)) ae)) (bx bP.nd rfl (by first | exact .inl rfl | exact .inr rfl)) cf (bI (ag (u3 (tn:=["_law_k"]) (n:=0) bP.nd rfl (by first | exact .inl rfl | exact .inr rfl) (cj (N:=e_) (osc:=(af fo)) rfl rfl (by decide+kernel)) rfl rfl (gn rfl B.range (aa (ab (pv 4)) ae)) (fun _ _ _ _ _ _ _=>d7 (show List.Nodup (((["_law_k"]:List Str))++dz ["_law_k"] e_) by decide+kernel) rfl rfl) (fun _ _ _ _ _ _=>dJ) (fun _ _ _ _ _ _=>(BU (ab (pv 6)) (aR bX (hr.mono (by decide)) rfl bN (aa (ab (pv 1)) (aa (cG (cG (cG (ab (pv 2)) ar) (gZ ar (ab (pv 8)))) (ab (pv 0))) (aa (aZ rfl B.len (aa (ab (pv 6)) ae)) ae))) rfl)))) (ao (aS bP.nd rfl (by first | exact .inl rfl | exact .inr rfl) (jV (ab (pv 6)) (gm (aa (El g0 (aa (ab (pv 8)) ae)) ae))))))))) (ao (aA (ab (pv 6)))))))))
abbrev gu:Stmt:=top 15
def jH:List Str:=["thing"]
def jQ:List Str:=["thing"]
theorem pL:FnScope jH jQ (af gu):=⟨rfl,rfl,rfl,by decide+kernel,rfl,by decide+kernel,by decide+kernel⟩
theorem pF(B:Bl K mg base cv cA Cp)(vT:ai P w K mg base cv 3 "is_board" 1 f9)(T:bw K mg "need_board" gu f):ai P w K mg base cv 4 "need_board" 1 (aK):=
 az (N:=jH) (ps:=jQ) T pL (fun _ _ _ _ _ _ us hl=>match us,hl with | [_],_=>rfl) fun bC A outer s H E hr=>
  (ao (bK (dG (df (aR vT (hr.mono (by decide)) rfl a9 (aa (ab (pv 0)) ae) rfl))) (ao fR) bo))
abbrev gy:Stmt:=top 30
def jK:List Str:=["board","start","ways","back","ring","further","cell","near"]
def jT:List Str:=["board","start","ways"]
theorem bR:FnScope jK jT (af gy):=⟨rfl,rfl,rfl,by decide+kernel,rfl,by decide+kernel,by decide+kernel⟩
theorem pI(B:Bl K mg base cv cA Cp)(rz:ai P w K mg base cv 3 "like_cells" 3 b8)(T:bw K mg "steps_back" gy f):ai P w K mg base cv 4 "steps_back" 3 (b_):=
 az (N:=jK) (ps:=jT) T bR (fun _ _ _ _ _ _ us hl=>match us,hl with | [_,_,_],_=>rfl) fun bC A outer s H E hr=>
  (ag (Cc bR.nd rfl (by first | exact .inl rfl | exact .inr rfl) (zI hr.units (ab (pv 1)) Hc)) (ag (aS bR.nd rfl (by first | exact .inl rfl | exact .inr rfl) (ou (aa (ab (pv 1)) ae))) (ag (eD (zN PassesOwn.never (df (ab (pv 4))) (bI (ag (mK bR.nd rfl (by first | exact .inl rfl | exact .inr rfl)) (ag (cy PassesOwn.never rfl (cb (ab (pv 4))) (bx bR.nd rfl (by first | exact .inl rfl | exact .inr rfl)) cf (bI (ao (cy PassesOwn.never rfl (cb (aR rz (hr.mono (by decide)) rfl bN (aa (ab (pv 0)) (aa (ab (pv 6)) (aa (ab (pv 2)) ae))) rfl)) (bx bR.nd rfl (by first | exact .inl rfl | exact .inr rfl)) cf (bI (ao (bK (B0 (qO hr.units (ab (pv 7)) (ab (pv 3)))) (ag (jY hr.units (pv 3) (ab (pv 7)) (ab (pv 6))) (ao (sI (pv 5) (ab (pv 7))))) bo))))))) (ao (fk (i:=5) (aS bR.nd rfl (by first | exact .inl rfl | exact .inr rfl) (ab (pv 5)))))))))) (ao (fk (i:=3) (aA (ab (pv 3))))))))
abbrev hZ:Stmt:=top 25
def lP:List Str:=["board","cell"]
def lY:List Str:=["board","cell"]
theorem sU:FnScope lP lY (af hZ):=⟨rfl,rfl,rfl,by decide+kernel,rfl,by decide+kernel,by decide+kernel⟩
theorem so(B:Bl K mg base cv cA Cp)(aW:ai P w K mg base cv 4 "need_board" 1 aK)(tV:ai P w K mg base cv 3 "need_cell" 2 eZ)(cz:ai P w K mg base cv 1 "letter_of" 2 aT)(T:bw K mg "letter_at" hZ f):ai P w K mg base cv 5 "letter_at" 2 (bY):=
 az (N:=lP) (ps:=lY) T sU (fun _ _ _ _ _ _ us hl=>match us,hl with | [_,_],_=>rfl) fun bC A outer s H E hr=>
  (ag (bO (aR aW (hr.mono (by decide)) rfl a9 (aa (ab (pv 0)) ae) rfl)) (ag (bO (aR tV (hr.mono (by decide)) rfl a9 (aa (ab (pv 0)) (aa (ab (pv 1)) ae)) rfl)) (ao (aA (aR cz (hr.mono (by decide)) rfl a9 (aa (ab (pv 0)) (aa (ab (pv 1)) ae)) rfl)))))
abbrev gr:Stmt:=top 26
def gj:List Str:=["board"]
def om:List Str:=["board"]
theorem vj:FnScope gj om (af gr):=⟨rfl,rfl,rfl,by decide+kernel,rfl,by decide+kernel,by decide+kernel⟩
theorem uS(B:Bl K mg base cv cA Cp)(aW:ai P w K mg base cv 4 "need_board" 1 aK)(T:bw K mg "mirrored" gr f):ai P w K mg base cv 5 "mirrored" 1 (cE):=
 az (N:=gj) (ps:=om) T vj (fun _ _ _ _ _ _ us hl=>match us,hl with | [_],_=>rfl) fun bC A outer s H E hr=>
  (ag (bO (aR aW (hr.mono (by decide)) rfl a9 (aa (ab (pv 0)) ae) rfl)) (ao (aA (BX rfl B.tuple rfl (aa (eC (tn:=["row"]) (n:=0) (cj (N:=gj) (osc:=(af gr)) rfl rfl (by decide+kernel)) rfl rfl (sF (ab (pv 0))) (fun _ _ _ _ _ _ _=>d7 (show List.Nodup (((["row"]:List Str))++dz ["row"] gj) by decide+kernel) rfl rfl) (fun _ _ _ _ _ _=>dJ) (fun _ _ _ _ _ _=>(He (ab (pv 0)) (BW ar)))) ae)))))
abbrev k9:Stmt:=top 27
def qA:List Str:=["one","other"]
def qJ:List Str:=["one","other"]
theorem w4:FnScope qA qJ (af k9):=⟨rfl,rfl,rfl,by decide+kernel,rfl,by decide+kernel,by decide+kernel⟩
theorem wH(B:Bl K mg base cv cA Cp)(aW:ai P w K mg base cv 4 "need_board" 1 aK)(i3:ai P w K mg base cv 1 "need_fit" 2 dS)(T:bw K mg "stacked" k9 f):ai P w K mg base cv 5 "stacked" 2 (eG):=
 az (N:=qA) (ps:=qJ) T w4 (fun _ _ _ _ _ _ us hl=>match us,hl with | [_,_],_=>rfl) fun bC A outer s H E hr=>
  (ag (bO (aR aW (hr.mono (by decide)) rfl a9 (aa (ab (pv 0)) ae) rfl)) (ag (bO (aR aW (hr.mono (by decide)) rfl a9 (aa (ab (pv 1)) ae) rfl)) (ag (bO (aR i3 (hr.mono (by decide)) rfl a9 (aa (ab (pv 0)) (aa (ab (pv 1)) ae)) rfl)) (ao (aA (jV (ab (pv 0)) (ab (pv 1))))))))
abbrev fw:Stmt:=top 31
def iS:List Str:=["board","ways","found","seen","cell","patch"]
def iU:List Str:=["board","ways"]
theorem cK:FnScope iS iU (af fw):=⟨rfl,rfl,rfl,by decide+kernel,rfl,by decide+kernel,by decide+kernel⟩
theorem n0(B:Bl K mg base cv cA Cp)(tT:ai P w K mg base cv 2 "all_cells" 1 eY)(rC:ai P w K mg base cv 4 "steps_back" 3 b_)(Dk:ai P w K mg base cv 1 "keyed" 1 jm)(T:bw K mg "all_patches" fw f):ai P w K mg base cv 5 "all_patches" 2 (aD):=
 az (N:=iS) (ps:=iU) T cK (fun _ _ _ _ _ _ us hl=>match us,hl with | [_,_],_=>rfl) fun bC A outer s H E hr=>
  (ag (mK cK.nd rfl (by first | exact .inl rfl | exact .inr rfl)) (ag (jX cK.nd rfl (by first | exact .inl rfl | exact .inr rfl)) (ag (eD (cy PassesOwn.never rfl (cb (aR tT (hr.mono (by decide)) rfl bN (aa (ab (pv 0)) ae) rfl)) (bx cK.nd rfl (by first | exact .inl rfl | exact .inr rfl)) cf (bI (ao (bK (B0 (qO hr.units (ab (pv 4)) (ab (pv 3)))) (ag (aS cK.nd rfl (by first | exact .inl rfl | exact .inr rfl) (yn rfl rfl B.sorted rfl (aa (aR rC (hr.mono (by decide)) rfl bN (aa (ab (pv 0)) (aa (ab (pv 4)) (aa (ab (pv 1)) ae))) rfl) ae))) (ag (sI (pv 2) (ab (pv 5))) (ao (EE hr.units (pv 3) (aR Dk (hr.mono (by decide)) rfl bN (aa (ab (pv 5)) ae) rfl) ⟨rfl,rfl,rfl,rfl⟩)))) bo))))) (ao (fk (i:=2) (aA (ab (pv 2))))))))
abbrev dI:Stmt:=top 36
def fc:List Str:=["one","other","ways"]
def fg:List Str:=["one","other","ways"]
theorem jg:FnScope fc fg (af dI):=⟨rfl,rfl,rfl,by decide+kernel,rfl,by decide+kernel,by decide+kernel⟩
theorem i9(B:Bl K mg base cv cA Cp)(aW:ai P w K mg base cv 4 "need_board" 1 aK)(d9:ai P w K mg base cv 2 "need_ways" 1 bZ)(i3:ai P w K mg base cv 1 "need_fit" 2 dS)(T:bw K mg "need_two_boards" dI f):ai P w K mg base cv 5 "need_two_boards" 3 (a7):=
 az (N:=fc) (ps:=fg) T jg (fun _ _ _ _ _ _ us hl=>match us,hl with | [_,_,_],_=>rfl) fun bC A outer s H E hr=>
  (ag (bO (aR aW (hr.mono (by decide)) rfl a9 (aa (ab (pv 0)) ae) rfl)) (ag (bO (aR aW (hr.mono (by decide)) rfl a9 (aa (ab (pv 1)) ae) rfl)) (ag (bO (aR d9 (hr.mono (by decide)) rfl a9 (aa (ab (pv 2)) ae) rfl)) (ao (bO (aR i3 (hr.mono (by decide)) rfl a9 (aa (ab (pv 0)) (aa (ab (pv 1)) ae)) rfl))))))
abbrev k8:Stmt:=top 33
def qz:List Str:=["board","ways"]
def qI:List Str:=["board","ways"]
theorem wZ:FnScope qz qI (af k8):=⟨rfl,rfl,rfl,by decide+kernel,rfl,by decide+kernel,by decide+kernel⟩
theorem wG(B:Bl K mg base cv cA Cp)(aW:ai P w K mg base cv 4 "need_board" 1 aK)(d9:ai P w K mg base cv 2 "need_ways" 1 bZ)(bg:ai P w K mg base cv 5 "all_patches" 2 aD)(T:bw K mg "patches" k8 f):ai P w K mg base cv 6 "patches" 2 (bL):=
 az (N:=qz) (ps:=qI) T wZ (fun _ _ _ _ _ _ us hl=>match us,hl with | [_,_],_=>rfl) fun bC A outer s H E hr=>
  (ag (bO (aR aW (hr.mono (by decide)) rfl a9 (aa (ab (pv 0)) ae) rfl)) (ag (bO (aR d9 (hr.mono (by decide)) rfl a9 (aa (ab (pv 1)) ae) rfl)) (ao (aA (aR bg (hr.mono (by decide)) rfl a9 (aa (ab (pv 0)) (aa (ab (pv 1)) ae)) rfl)))))
abbrev jc:Stmt:=top 34
def nQ:List Str:=["board","ways"]
def n_:List Str:=["board","ways"]
theorem vf:FnScope nQ n_ (af jc):=⟨rfl,rfl,rfl,by decide+kernel,rfl,by decide+kernel,by decide+kernel⟩
theorem uO(B:Bl K mg base cv cA Cp)(aW:ai P w K mg base cv 4 "need_board" 1 aK)(d9:ai P w K mg base cv 2 "need_ways" 1 bZ)(bg:ai P w K mg base cv 5 "all_patches" 2 aD)(T:bw K mg "how_many" jc f):ai P w K mg base cv 6 "how_many" 2 (bG):=
 az (N:=nQ) (ps:=n_) T vf (fun _ _ _ _ _ _ us hl=>match us,hl with | [_,_],_=>rfl) fun bC A outer s H E hr=>
  (ag (bO (aR aW (hr.mono (by decide)) rfl a9 (aa (ab (pv 0)) ae) rfl)) (ag (bO (aR d9 (hr.mono (by decide)) rfl a9 (aa (ab (pv 1)) ae) rfl)) (ao (aA (aZ rfl B.len (aa (aR bg (hr.mono (by decide)) rfl a9 (aa (ab (pv 0)) (aa (ab (pv 1)) ae)) rfl) ae))))))
abbrev wX:Stmt:=top 38
def Bt:List Str:=["one","other","ways","numbers_above","numbers_below","pairs","above","below"]
def BN:List Str:=["one","other","ways"]
theorem iF:FnScope Bt BN (af wX):=⟨rfl,rfl,rfl,by decide+kernel,rfl,by decide+kernel,by decide+kernel⟩
set_option maxHeartbeats 4000000 in
theorem D_(B:Bl K mg base cv cA Cp)(bM:ai P w K mg base cv 5 "need_two_boards" 3 a7)(ji:ai P w K mg base cv 1 "numbers_of" 1 b9)(du:ai P w K mg base cv 1 "cells_of_row" 2 aO)(bg:ai P w K mg base cv 5 "all_patches" 2 aD)(pd:ai P w K mg base cv 2 "meets_below" 3 ck)(cz:ai P w K mg base cv 1 "letter_of" 2 aT)(T:bw K mg "seam" wX f):ai P w K mg base cv 6 "seam" 3 (f_):=
 az (N:=Bt) (ps:=BN) T iF (fun _ _ _ _ _ _ us hl=>match us,hl with | [_,_,_],_=>rfl) fun bC A outer s H E hr=>
  (ag (bO (aR bM (hr.mono (by decide)) rfl a9 (aa (ab (pv 0)) (aa (ab (pv 1)) (aa (ab (pv 2)) ae))) rfl)) (ag (aS iF.nd rfl (by first | exact .inl rfl | exact .inr rfl) (aR ji (hr.mono (by decide)) rfl a9 (aa (aR bg (hr.mono (by decide)) rfl a9 (aa (ab (pv 0)) (aa (ab (pv 2)) ae)) rfl) ae) rfl)) (ag (aS iF.nd rfl (by first | exact .inl rfl | exact .inr rfl) (aR ji (hr.mono (by decide)) rfl a9 (aa (aR bg (hr.mono (by decide)) rfl a9 (aa (ab (pv 1)) (aa (ab (pv 2)) ae)) rfl) ae) rfl)) (ag (jX iF.nd rfl (by first | exact .inl rfl | exact .inr rfl)) (ag (eD (cy PassesOwn.never rfl (cb (aR du (hr.mono (by decide)) rfl bN (aa (ab (pv 0)) (aa (kQ (aZ rfl B.len (aa (ab (pv 0)) ae)) ar) ae)) rfl)) (bx iF.nd rfl (by first | exact .inl rfl | exact .inr rfl)) cf (bI (ao (cy PassesOwn.never rfl (cb (aR du (hr.mono (by decide)) rfl bN (aa (ab (pv 1)) (aa ar ae)) rfl)) (bx iF.nd rfl (by first | exact .inl rfl | exact .inr rfl)) cf (bI (ao (bK (PDW.t (sG (u4 hr.units (aR cz (hr.mono (by decide)) rfl bN (aa (ab (pv 0)) (aa (ab (pv 6)) ae)) rfl) (aR cz (hr.mono (by decide)) rfl bN (aa (ab (pv 1)) (aa (ab (pv 7)) ae)) rfl)) (oz (df (aR pd (hr.mono (by decide)) rfl bN (aa (ab (pv 6)) (aa (ab (pv 7)) (aa (ab (pv 2)) ae))) rfl))))) (ao (jY hr.units (pv 5) (gm (aa (BS hr.units (ab (pv 3)) (ab (pv 6))) (aa (BS hr.units (ab (pv 4)) (ab (pv 7))) ae))) fP)) bo)))))))) (ao (fk (i:=5) (aA (yn rfl rfl B.sorted rfl (aa (ab (pv 5)) ae))))))))))
abbrev cX:Stmt:=top 39
def et:List Str:=["one","other","ways"]
def eu:List Str:=["one","other","ways"]
theorem ij:FnScope et eu (af cX):=⟨rfl,rfl,rfl,by decide+kernel,rfl,by decide+kernel,by decide+kernel⟩
theorem gW(B:Bl K mg base cv cA Cp)(bM:ai P w K mg base cv 5 "need_two_boards" 3 a7)(bg:ai P w K mg base cv 5 "all_patches" 2 aD)(T:bw K mg "how_many_together" cX f):ai P w K mg base cv 6 "how_many_together" 3 (aP):=
 az (N:=et) (ps:=eu) T ij (fun _ _ _ _ _ _ us hl=>match us,hl with | [_,_,_],_=>rfl) fun bC A outer s H E hr=>
  (ag (bO (aR bM (hr.mono (by decide)) rfl a9 (aa (ab (pv 0)) (aa (ab (pv 1)) (aa (ab (pv 2)) ae))) rfl)) (ao (aA (aZ rfl B.len (aa (aR bg (hr.mono (by decide)) rfl a9 (aa (jV (ab (pv 0)) (ab (pv 1))) (aa (ab (pv 2)) ae)) rfl) ae)))))
abbrev cT:Stmt:=top 40
def cR:List Str:=["one","other","ways"]
def fO:List Str:=["one","other","ways"]
theorem j6:FnScope cR fO (af cT):=⟨rfl,rfl,rfl,by decide+kernel,rfl,by decide+kernel,by decide+kernel⟩
theorem jN(B:Bl K mg base cv cA Cp)(bM:ai P w K mg base cv 5 "need_two_boards" 3 a7)(bg:ai P w K mg base cv 5 "all_patches" 2 aD)(T:bw K mg "sizes_together" cT f):ai P w K mg base cv 6 "sizes_together" 3 (bb):=
 az (N:=cR) (ps:=fO) T j6 (fun _ _ _ _ _ _ us hl=>match us,hl with | [_,_,_],_=>rfl) fun bC A outer s H E hr=>
  (ag (bO (aR bM (hr.mono (by decide)) rfl a9 (aa (ab (pv 0)) (aa (ab (pv 1)) (aa (ab (pv 2)) ae))) rfl)) (ao (aA (sE rfl B.sorted rfl (aa (eC (tn:=["patch"]) (n:=0) (cj (N:=cR) (osc:=(af cT)) rfl rfl (by decide+kernel)) rfl rfl (cb (aR bg (hr.mono (by decide)) rfl a9 (aa (jV (ab (pv 0)) (ab (pv 1))) (aa (ab (pv 2)) ae)) rfl)) (fun _ _ _ _ _ _ _=>d7 (show List.Nodup (((["patch"]:List Str))++dz ["patch"] cR) by decide+kernel) rfl rfl) (fun _ _ _ _ _ _=>dJ) (fun _ _ _ _ _ _=>(aZ rfl B.len (aa (ab (pv 0)) ae)))) ae)))))
abbrev au:Stmt:=top 47
def bc:List Str:=["_law_script","_law_board_here","_law_ways","_law_sizes","_law_at","_law_one","_law_other","_law_pairs","_law_parts","_law_whole","_law_mine","_law_yours","_law_above","_law_under","_law_known"]
def kM:List Str:=["_law_script"]
theorem aV:FnScope bc kM (af au):=⟨rfl,rfl,rfl,by decide+kernel,rfl,by decide+kernel,by decide+kernel⟩
set_option maxHeartbeats 4000000 in
theorem s8(B:Bl K mg base cv cA Cp)(gL:ai P w K mg base cv 3 "_law_board" 3 cC){bC:Value}{A:Around}{outer:List Env}{s:Shared}{H:Hp}{E:XK}(hr:Room 6 (A.deeper (envOfC "law" (af au) s.heap.objs.size f bC))):
 Box (iL (d_ (lr P w cv) P w K mg base bc "law" (af au) f bC A outer s H E) (fun n H'=>E (cv n) none H') ((bf au).getD 0 (.Pass ⟨0,0,0,0⟩)) me):=
 ⟨(aS aV.nd rfl (by first | exact .inl rfl | exact .inr rfl) (aR gL (hr.mono (by decide)) rfl a9 (aa (ab (pv 0)) (aa ar (aa ar ae))) rfl))⟩
set_option maxHeartbeats 4000000 in
theorem s9(B:Bl K mg base cv cA Cp){bC:Value}{A:Around}{outer:List Env}{s:Shared}{H:Hp}{E:XK}(hr:Room 6 (A.deeper (envOfC "law" (af au) s.heap.objs.size f bC))):
 Box (iL (d_ (lr P w cv) P w K mg base bc "law" (af au) f bC A outer s H E) (fun n H'=>E (cv n) none H') ((bf au).getD 1 (.Pass ⟨0,0,0,0⟩)) mf):=
 ⟨(aS aV.nd rfl (by first | exact .inl rfl | exact .inr rfl) (jV (ab (pv 1)) (oy (ab (pv 1)) eR (eS ar))))⟩
set_option maxHeartbeats 4000000 in
theorem s_(B:Bl K mg base cv cA Cp)(bX:ai P w K mg base cv 2 "_law_drawn" 3 aQ){bC:Value}{A:Around}{outer:List Env}{s:Shared}{H:Hp}{E:XK}(hr:Room 6 (A.deeper (envOfC "law" (af au) s.heap.objs.size f bC))):
 Box (iL (d_ (lr P w cv) P w K mg base bc "law" (af au) f bC A outer s H E) (fun n H'=>E (cv n) none H') ((bf au).getD 2 (.Pass ⟨0,0,0,0⟩)) mh):=
 ⟨(aS aV.nd rfl (by first | exact .inl rfl | exact .inr rfl) (kO (ou (aa ar (aa ar ae))) (aR bX (hr.mono (by decide)) rfl a9 (aa (ab (pv 0)) (aa ar (aa ar ae))) rfl)))⟩
set_option maxHeartbeats 4000000 in
theorem tf(B:Bl K mg base cv cA Cp)(cg:ai P w K mg base cv 6 "patches" 2 bL){bC:Value}{A:Around}{outer:List Env}{s:Shared}{H:Hp}{E:XK}(hr:Room 6 (A.deeper (envOfC "law" (af au) s.heap.objs.size f bC))):
 Box (iL (d_ (lr P w cv) P w K mg base bc "law" (af au) f bC A outer s H E) (fun n H'=>E (cv n) none H') ((bf au).getD 3 (.Pass ⟨0,0,0,0⟩)) mi):=
 ⟨(aS aV.nd rfl (by first | exact .inl rfl | exact .inr rfl) (sE rfl B.sorted rfl (aa (eC (tn:=["_law_patch"]) (n:=0) (cj (N:=bc) (osc:=(af au)) rfl rfl (by decide+kernel)) rfl rfl (cb (aR cg (hr.mono (by decide)) rfl a9 (aa (ab (pv 1)) (aa (ab (pv 2)) ae)) rfl)) (fun _ _ _ _ _ _ _=>d7 (show List.Nodup (((["_law_patch"]:List Str))++dz ["_law_patch"] bc) by decide+kernel) rfl rfl) (fun _ _ _ _ _ _=>dJ) (fun _ _ _ _ _ _=>(aZ rfl B.len (aa (ab (pv 0)) ae)))) ae)))⟩
set_option maxHeartbeats 4000000 in
theorem tj(B:Bl K mg base cv cA Cp){bC:Value}{A:Around}{outer:List Env}{s:Shared}{H:Hp}{E:XK}(hr:Room 6 (A.deeper (envOfC "law" (af au) s.heap.objs.size f bC))):
 Box (iL (d_ (lr P w cv) P w K mg base bc "law" (af au) f bC A outer s H E) (fun n H'=>E (cv n) none H') ((bf au).getD 4 (.Pass ⟨0,0,0,0⟩)) mj):=
 ⟨(bK (g6 hr.units (En rfl rfl B.sum rfl (aa (ab (pv 3)) ae)) (gZ (aZ rfl B.len (aa (ab (pv 1)) ae)) (aZ rfl B.len (aa (bH (ab (pv 1)) ar) ae)))) (ao (aA fP)) bo)⟩
set_option maxHeartbeats 4000000 in
theorem tm(B:Bl K mg base cv cA Cp)(rB:ai P w K mg base cv 6 "seam" 3 f_)(bh:ai P w K mg base cv 6 "how_many_together" 3 aP)(cg:ai P w K mg base cv 6 "patches" 2 bL)(bF:ai P w K mg base cv 6 "sizes_together" 3 bb)(eK:ai P w K mg base cv 6 "how_many" 2 bG)(kj:ai P w K mg base cv 5 "stacked" 2 eG)(eW:ai P w K mg base cv 5 "letter_at" 2 bY)(f7:ai P w K mg base cv 5 "mirrored" 1 cE){bC:Value}{A:Around}{outer:List Env}{s:Shared}{H:Hp}{E:XK}(hr:Room 6 (A.deeper (envOfC "law" (af au) s.heap.objs.size f bC))):
 Box (iL (d_ (lr P w cv) P w K mg base bc "law" (af au) f bC A outer s H E) (fun n H'=>E (cv n) none H') ((bf au).getD 5 (.Pass ⟨0,0,0,0⟩)) ml):=
 ⟨(eD (cy PassesOwn.never rfl (ja rfl B.range (aa ar (aa (aZ rfl B.len (aa (ab (pv 1)) ae)) ae))) (bx aV.nd rfl (by first | exact .inl rfl | exact .inr rfl)) cf (bI (ag (aS aV.nd rfl (by first | exact .inl rfl | exact .inr rfl) (oy (ab (pv 1)) eR (eS (ab (pv 4))))) (ag (aS aV.nd rfl (by first | exact .inl rfl | exact .inr rfl) (oy (ab (pv 1)) (eS (ab (pv 4))) eR)) (ag (aS aV.nd rfl (by first | exact .inl rfl | exact .inr rfl) (aR rB (hr.mono (by decide)) rfl bN (aa (ab (pv 5)) (aa (ab (pv 6)) (aa (ab (pv 2)) ae))) rfl)) (ag (aS aV.nd rfl (by first | exact .inl rfl | exact .inr rfl) (cG (aR eK (hr.mono (by decide)) rfl bN (aa (ab (pv 5)) (aa (ab (pv 2)) ae)) rfl) (aR eK (hr.mono (by decide)) rfl bN (aa (ab (pv 6)) (aa (ab (pv 2)) ae)) rfl))) (ag (aS aV.nd rfl (by first | exact .inl rfl | exact .inr rfl) (aR bh (hr.mono (by decide)) rfl bN (aa (ab (pv 5)) (aa (ab (pv 6)) (aa (ab (pv 2)) ae))) rfl)) (ag (bK (PDW.t (fq (g6 hr.units (aR kj (hr.mono (by decide)) rfl bN (aa (ab (pv 5)) (aa (ab (pv 6)) ae)) rfl) (ab (pv 1))) (fq (g6 hr.units (ab (pv 9)) (aR eK (hr.mono (by decide)) rfl bN (aa (ab (pv 1)) (aa (ab (pv 2)) ae)) rfl)) (fj (g6 hr.units (aR bF (hr.mono (by decide)) rfl bN (aa (ab (pv 5)) (aa (ab (pv 6)) (aa (ab (pv 2)) ae))) rfl) (ab (pv 3))))))) (ao (aA fP)) bo) (ag (bK (PDW.t (fq (JT (ab (pv 9)) (kQ (ab (pv 8)) (aZ rfl B.len (aa (ab (pv 7)) ae)))) (fq (PDW.t (sG (u4 hr.units (ab (pv 7)) (ou ae)) (oz (g6 hr.units (ab (pv 9)) (ab (pv 8)))))) (fj (PDW.t (sG (FI (aZ rfl B.len (aa (ab (pv 7)) ae)) ar) (oz (JS (ab (pv 9)) (ab (pv 8)))))))))) (ao (aA fP)) bo) (ag (bK (PDW.t (fq (g6 hr.units (aZ rfl B.len (aa (aR rB (hr.mono (by decide)) rfl bN (aa (aR f7 (hr.mono (by decide)) rfl bN (aa (ab (pv 5)) ae) rfl) (aa (aR f7 (hr.mono (by decide)) rfl bN (aa (ab (pv 6)) ae) rfl) (aa (ab (pv 2)) ae))) rfl) ae)) (aZ rfl B.len (aa (ab (pv 7)) ae))) (fj (g6 hr.units (ab (pv 7)) (zH rfl hr.units rfl B.sorted rfl B.set rfl rfl (ab (pv 7))))))) (ao (aA fP)) bo) (ag (aS aV.nd rfl (by first | exact .inl rfl | exact .inr rfl) (aR cg (hr.mono (by decide)) rfl bN (aa (ab (pv 5)) (aa (ab (pv 2)) ae)) rfl)) (ag (aS aV.nd rfl (by first | exact .inl rfl | exact .inr rfl) (aR cg (hr.mono (by decide)) rfl bN (aa (ab (pv 6)) (aa (ab (pv 2)) ae)) rfl)) (ao (cy PassesOwn.never rfl (cb (ab (pv 7))) (B7 rfl (jW (bx aV.nd rfl (by first | exact .inl rfl | exact .inr rfl)) (jW (bx aV.nd rfl (by first | exact .inl rfl | exact .inr rfl)) yo))) (yq (is:=[12,13])) (bI (ao (bK (g6 hr.units (aR eW (hr.mono (by decide)) rfl bN (aa (ab (pv 5)) (aa (kO (kO (ab (pv 10)) (ab (pv 12))) ar) ae)) rfl) (aR eW (hr.mono (by decide)) rfl bN (aa (ab (pv 6)) (aa (kO (kO (ab (pv 11)) (ab (pv 13))) ar) ae)) rfl)) (ao (aA fP)) bo))))))))))))))))))⟩
set_option maxHeartbeats 4000000 in
theorem tq(B:Bl K mg base cv cA Cp){bC:Value}{A:Around}{outer:List Env}{s:Shared}{H:Hp}{E:XK}(hr:Room 6 (A.deeper (envOfC "law" (af au) s.heap.objs.size f bC))):
 Box (iL (d_ (lr P w cv) P w K mg base bc "law" (af au) f bC A outer s H E) (fun n H'=>E (cv n) none H') ((bf au).getD 6 (.Pass ⟨0,0,0,0⟩)) mm):=
 ⟨(aS aV.nd rfl (by first | exact .inl rfl | exact .inr rfl) (gm (aa g0 (aa g0 (aa g0 ae)))))⟩
set_option maxHeartbeats 4000000 in
theorem tu(B:Bl K mg base cv cA Cp)(cg:ai P w K mg base cv 6 "patches" 2 bL){bC:Value}{A:Around}{outer:List Env}{s:Shared}{H:Hp}{E:XK}(hr:Room 6 (A.deeper (envOfC "law" (af au) s.heap.objs.size f bC))):
 Box (iL (d_ (lr P w cv) P w K mg base bc "law" (af au) f bC A outer s H E) (fun n H'=>E (cv n) none H') ((bf au).getD 7 (.Pass ⟨0,0,0,0⟩)) mn):=
 ⟨(aS aV.nd rfl (by first | exact .inl rfl | exact .inr rfl) (sE rfl B.sorted rfl (aa (eC (tn:=["_law_patch"]) (n:=0) (cj (N:=bc) (osc:=(af au)) rfl rfl (by decide+kernel)) rfl rfl (cb (aR cg (hr.mono (by decide)) rfl a9 (aa (ab (pv 14)) (aa ar ae)) rfl)) (fun _ _ _ _ _ _ _=>d7 (show List.Nodup (((["_law_patch"]:List Str))++dz ["_law_patch"] bc) by decide+kernel) rfl rfl) (fun _ _ _ _ _ _=>dJ) (fun _ _ _ _ _ _=>(aZ rfl B.len (aa (ab (pv 0)) ae)))) ae)))⟩
set_option maxHeartbeats 4000000 in
theorem tw(B:Bl K mg base cv cA Cp)(bh:ai P w K mg base cv 6 "how_many_together" 3 aP){bC:Value}{A:Around}{outer:List Env}{s:Shared}{H:Hp}{E:XK}(hr:Room 6 (A.deeper (envOfC "law" (af au) s.heap.objs.size f bC))):
 Box (iL (d_ (lr P w cv) P w K mg base bc "law" (af au) f bC A outer s H E) (fun n H'=>E (cv n) none H') ((bf au).getD 8 (.Pass ⟨0,0,0,0⟩)) mq):=
 ⟨(bK (g6 hr.units (aR bh (hr.mono (by decide)) rfl a9 (aa (oy (ab (pv 14)) eR (eS ar)) (aa (oy (ab (pv 14)) (eS ar) eR) (aa ar ae))) rfl) (aZ rfl B.len (aa (ab (pv 3)) ae))) (ao (aA fP)) bo)⟩
set_option maxHeartbeats 4000000 in
theorem tB(B:Bl K mg base cv cA Cp)(bF:ai P w K mg base cv 6 "sizes_together" 3 bb){bC:Value}{A:Around}{outer:List Env}{s:Shared}{H:Hp}{E:XK}(hr:Room 6 (A.deeper (envOfC "law" (af au) s.heap.objs.size f bC))):
 Box (iL (d_ (lr P w cv) P w K mg base bc "law" (af au) f bC A outer s H E) (fun n H'=>E (cv n) none H') ((bf au).getD 9 (.Pass ⟨0,0,0,0⟩)) mr):=
 ⟨(aA (uY hr.units (aR bF (hr.mono (by decide)) rfl a9 (aa (oy (ab (pv 14)) eR (eS ar)) (aa (oy (ab (pv 14)) (eS ar) eR) (aa ar ae))) rfl) (ab (pv 3))))⟩
set_option maxHeartbeats 4000000 in
theorem uM{fd:FuncData}(B:Bl K mg base cv cA Cp)(gL:ai P w K mg base cv 3 "_law_board" 3 cC)(bX:ai P w K mg base cv 2 "_law_drawn" 3 aQ)(rB:ai P w K mg base cv 6 "seam" 3 f_)(bh:ai P w K mg base cv 6 "how_many_together" 3 aP)(cg:ai P w K mg base cv 6 "patches" 2 bL)(bF:ai P w K mg base cv 6 "sizes_together" 3 bb)(eK:ai P w K mg base cv 6 "how_many" 2 bG)(kj:ai P w K mg base cv 5 "stacked" 2 eG)(eW:ai P w K mg base cv 5 "letter_at" 2 bY)(f7:ai P w K mg base cv 5 "mirrored" 1 cE)(Fn:Fun K "law" "law" au f fd):FnOk P w K mg base (lr P w cv) 7 f fd kM (Ie K cv 1 iw):=
 IG (N:=bc) (ps:=kM) (τ:=ll) Fn aV fun bC A outer s H E hr=>by
  obtain⟨PX⟩:Box (PSDs (d_ (lr P w cv) P w K mg base bc "law" (af au) f bC A outer s H E) (fun n H'=>E (cv n) none H') (bf au) ll):=(fZ (s8 B gL hr) (fZ (s9 B hr) (fZ (s_ B bX hr) (fZ (tf B cg hr) (fZ (tj B hr) (fZ (tm B rB bh cg bF eK kj eW f7 hr) (fZ (tq B hr) (fZ (tu B cg hr) (fZ (tw B bh hr) (FW (tB B bF hr)))))))))))
  assumption
end
end K1
namespace K1
open PySem L2 L3
theorem Bs{ds:List D}(h:ds.length≤lim):fN ds=M.ret (.lst ds):=if_pos h
theorem eA:lim=4096:=rfl
theorem eJ{α:Type}{xs:List α}{i:Nat}{x:α}(h:xs[i]? =some x):L2.atI xs (i:Int)=some x:=by
 obtain⟨hi,e⟩:=List.getElem?_eq_some_iff.mp h
 unfold L2.atI De
 rw[if_pos (Int.natCast_nonneg i),if_pos (by exact Int.ofNat_lt.mpr hi)]
 exact h
theorem ak{m:Nat}{g:List D→M D}{δs:DA}{ρ:aX}{ds:List D}(h:δs ρ=M.ret ds)(hl:ds.length=m):ah m g δs ρ=g ds:=by
 unfold ah
 rw[h]
 exact if_pos hl
theorem aJ{a:DE}{r:DA}{ρ:aX}{x:D}{xs:List D}(h1:a ρ=M.ret x)(h2:r ρ=M.ret xs):aC a r ρ=M.ret (x::xs):=by
 unfold aC
 rw[h1,aq,h2]
 rfl
theorem aL{g:D→D→M D}{a b:DE}{ρ:aX}{x y:D}(h1:a ρ=M.ret x)(h2:b ρ=M.ret y):d2 g a b ρ=g x y:=by
 unfold d2
 rw[h1,aq,h2]
 rfl
theorem cu{g:List D→M D}{a:DA}{ρ:aX}{xs:List D}(h:a ρ=M.ret xs):dA g a ρ=g xs:=by
 unfold dA
 rw[h]
 rfl
theorem fJ{i j:Int}(h:0<j):jt (.int i) (.int j)=M.ret (.int (i % j)):=by
 show (if decide (0<j)=true then _ else _)=_
 rw[if_pos (decide_eq_true h)]
theorem jr{i j:Int}(h:0<j)(h2:j<1073741824):pq (.int i) (.int j)=M.ret (.int (i / j)):=by
 show (if decide (0<j∧j<1073741824)=true then _ else _)=_
 rw[if_pos (decide_eq_true ⟨h,h2⟩)]
theorem eP{i j:Int}(h:(-(2 ^ 64)<i∧i<2 ^ 64)∨(-(2 ^ 64)<j∧j<2 ^ 64)):gJ (.int i) (.int j)=M.ret (.int (i*j)):=by
 show (if decide _=true then _ else _)=_
 rw[if_pos (decide_eq_true h)]
theorem gM{i j:Int}:dr (.int i) (.int j)=M.ret (.int (i+j)):=rfl
theorem A0{i j:Int}:kz (.int i) (.int j)=M.ret (.int (i - j)):=rfl
theorem Ax(ns:List Int)(hl:ns.length≤63)(k:Nat):∃v,eO [.scr ns, .int (k:Int)]=M.ret (.int v):=by
 cases ns with
 |nil=>
  refine⟨7*(k:Int),?_⟩
  rfl
 |cons n r=>
  have hp:0<(n::r).length:=Nat.succ_pos _
  generalize e:(n::r)=ns at*
  have he:o7 6 (.scr ns) (.lst [])=some false:=by subst e;rfl
  obtain⟨y,hy⟩:∃y,ns[k % ns.length]? =some y:=⟨_,List.getElem?_eq_getElem (Nat.mod_lt _ hp)⟩
  have Nu:(0:Int)<(ns.length:Int):=by omega
  have h1:jt (.int (k:Int)) (.int (ns.length:Int))=M.ret (.int ((k % ns.length:Nat):Int)):=fJ Nu
  have h2:pq (.int (k:Int)) (.int (ns.length:Int))=M.ret (.int ((k:Int) / (ns.length:Int))):=jr Nu (by omega)
  have h3:AX (.scr ns) (.int ((k % ns.length:Nat):Int))=M.ret (.int y):=by
   show (match L2.atI ns ((k % ns.length:Nat):Int) with | some n=>M.ret (D.int n) | none=>M.stuck)=_
   rw[eJ hy]
  have h4:gJ (.int 6553) (.int ((k:Int) / (ns.length:Int)))=M.ret (.int (6553*((k:Int) / (ns.length:Int)))):=eP (.inl ⟨by decide,by decide⟩)
  refine⟨y+6553*((k:Int) / (ns.length:Int)),?_⟩
  simp only[eO,o5,bV,aB,gq,bt,cJ,cY,d2,dV,dC,dA,aC,aN,fN,aU,z9,kx,he,aq,h1,h2,h3,h4,List.map_cons,List.map_nil,List.cons_append,List.nil_append,List.length_cons,List.length_nil,List.getElem?_cons_zero,List.getElem?_cons_succ,eA,Nat.reduceAdd,Nat.zero_le,if_true,Bool.false_eq_true,if_false,dr,gI]
theorem fH(ns:List Int)(hl:ns.length≤63)(k m:Nat)(hm:0<m):∃v:Nat,v<m∧aQ [.scr ns, .int (k:Int), .int (m:Int)]=M.ret (.int (v:Int)):=by
 obtain⟨c,hc⟩:=Ax ns hl k
 have b1:=Int.emod_nonneg (c % 2147483563*69069+104723*((k:Int)+1)) (b:=2147483563) (by decide)
 have b2:=Int.emod_lt_of_pos (c % 2147483563*69069+104723*((k:Int)+1)) (b:=2147483563) (by decide)
 generalize hx:(c % 2147483563*69069+104723*((k:Int)+1)) % 2147483563=x at b1 b2
 have b3:=Int.emod_nonneg (x*x+x / 3) (b:=2147483399) (by decide)
 have b4:=Int.emod_lt_of_pos (x*x+x / 3) (b:=2147483399) (by decide)
 generalize hy:(x*x+x / 3) % 2147483399=y at b3 b4
 have m1:gJ (.int (c % 2147483563)) (.int 69069)=_:=eP (.inr ⟨by decide,by decide⟩)
 have m2:gJ (.int 104723) (.int ((k:Int)+1))=_:=eP (.inl ⟨by decide,by decide⟩)
 have m3:gJ (.int x) (.int x)=_:=eP (.inl ⟨by omega,by omega⟩)
 have m4:gJ (.int y) (.int y)=_:=eP (.inl ⟨by omega,by omega⟩)
 have hM:(0:Int)<(m:Int):=Int.ofNat_lt.mpr hm
 have n1:=Int.emod_nonneg ((y*y+y / 7) % 2147483647 / 11) (b:=(m:Int)) (by omega)
 have n2:=Int.emod_lt_of_pos ((y*y+y / 7) % 2147483647 / 11) hM
 have q1:jt (.int c) (.int 2147483563)=_:=fJ (by decide)
 have q2:jt (.int (c % 2147483563*69069+104723*((k:Int)+1))) (.int 2147483563)=_:=fJ (by decide)
 have q3:pq (.int x) (.int 3)=_:=jr (by decide) (by decide)
 have q4:jt (.int (x*x+x / 3)) (.int 2147483399)=_:=fJ (by decide)
 have q5:pq (.int y) (.int 7)=_:=jr (by decide) (by decide)
 have q6:jt (.int (y*y+y / 7)) (.int 2147483647)=_:=fJ (by decide)
 have q7:pq (.int ((y*y+y / 7) % 2147483647)) (.int 11)=_:=jr (by decide) (by decide)
 have q8:jt (.int ((y*y+y / 7) % 2147483647 / 11)) (.int (m:Int))=_:=fJ hM
 refine⟨((y*y+y / 7) % 2147483647 / 11 % (m:Int)).toNat,by omega,?_⟩
 rw[Int.toNat_of_nonneg n1]
 rw[hx] at q2
 rw[hy] at q4
 simp only[aQ,md,bV,aB,bJ,bt,ah,d2,dV,dC,dA,aC,aN,aq,hc,List.map_cons,List.map_nil,List.cons_append,List.nil_append,List.length_cons,List.length_nil,List.getElem?_cons_zero,List.getElem?_cons_succ,List.replicate,List.set_cons_zero,List.set_cons_succ,Nat.reduceAdd,Nat.reduceSub,if_true,gM,m1,m2,m3,m4,q1,q2,q3,q4,q5,q6,q7,q8]
theorem BA{α:Type}(a:α):noex (M.ret a)=M.ret a:=rfl
theorem uf{put:D→aX→Option aX}{body:DS}{I:Nat→aX→Prop}:∀(ds:List D) (i:Nat) (ρ:aX),I i ρ→
 (∀j d,ds[j]? =some d→∀ρ,I (i+j) ρ→∃ρ1 ρ2,put d ρ=some ρ1∧body ρ1=M.ret (.nx ρ2)∧I (i+j+1) ρ2)→∃ρ',forL put body ds ρ=M.ret (.nx ρ')∧I (i+ds.length) ρ'
 |[],i,ρ,h,_=>⟨ρ,rfl,h⟩
 |d::ds,i,ρ,h,step=>by
  obtain⟨ρ1,ρ2,e1,e2,h2⟩:=step 0 d rfl ρ h
  obtain⟨ρ',e3,h3⟩:=uf (I:=I) ds (i+1) ρ2 h2 fun j d' hd ρ hI=>by
   have:=step (j+1) d' hd ρ (by rw[show i+(j+1)=i+1+j by omega];exact hI)
   rw[show i+(j+1)+1=i+1+j+1 by omega] at this
   exact this
  refine⟨ρ',?_,?_⟩
  ·show (match put d ρ with | none=>M.stuck | some ρ1=>body ρ1>>=fun o=>match o with | .nx ρ2=>forL put body ds ρ2 | .rt v=>M.ret (.rt v))=_
   rw[e1]
   show (body ρ1>>=fun o=>match o with | .nx ρ2=>forL put body ds ρ2 | .rt v=>M.ret (.rt v))=_
   rw[e2]
   exact e3
  ·rw[show i+(d::ds).length=i+1+ds.length by simp;omega]
   exact h3
theorem pY{f:D→M (Option D)}{Pr:D→Prop}:∀(ds:List D),(∀d∈ds,∃y,f d=M.ret (some y)∧Pr y)→∃ys,cZ f ds=M.ret ys∧ys.length=ds.length∧∀y∈ys,Pr y
 |[],_=>⟨[],rfl,rfl,fun _ h=>by cases h⟩
 |d::ds,h=>by
  obtain⟨y,e,hy⟩:=h d (List.mem_cons_self ..)
  obtain⟨ys,e2,hl,hp⟩:=pY ds fun d' hd=>h d' (List.mem_cons_of_mem _ hd)
  refine⟨y::ys,?_,by simp[hl],fun z hz=>?_⟩
  ·rw[dR,e,aq,e2]
   rfl
  ·cases hz with
   |head=>exact hy
   |tail _ hz=>exact hp z hz
theorem fG{f:D→M (Option D)}{g:D→D}:∀(ds:List D),(∀d∈ds,f d=M.ret (some (g d)))→cZ f ds=M.ret (ds.map g)
 |[],_=>rfl
 |d::ds,h=>by
  rw[dR,h d (List.mem_cons_self ..),aq,fG ds fun d' hd=>h d' (List.mem_cons_of_mem _ hd)]
  rfl
def GK(x:Str):Bool:=!(Builtin.Str.occurrences ("abcdef":Str) x 0 ("abcdef":Str).length 1).isEmpty
structure Row (W:Nat) (r:Str):Prop where
 len:r.length=W
 let':∀c∈r.cps.toList,GK ⟨#[c]⟩=true
structure Good (bd:List Str) (W:Nat):Prop where
 r1:1≤bd.length
 r5:bd.length≤5
 w1:1≤W
 w5:W≤5
 rows:∀r∈bd,Row W r
abbrev lE(c:Nat):Prop:=GK ⟨#[c]⟩=true∧c≠101
def Km(r:Str):Prop:=∀c∈r.cps.toList,c≠101
theorem vA:∀(ys:List D),(∀y∈ys,∃c,y= .str ⟨#[c]⟩∧lE c)→∃xs,tG ys=some xs∧xs.length=ys.length∧(xs.map (·.length)).sum=ys.length∧Row ys.length (eh xs)∧Km (eh xs)
 |[],_=>⟨[],rfl,rfl,rfl,⟨rfl,fun c h=>by cases h⟩,fun c h=>by cases h⟩
 |y::ys,h=>by
  obtain⟨c,e,hc⟩:=h y (List.mem_cons_self ..)
  obtain⟨xs,e1,e2,e3,e4,e5⟩:=vA ys fun z hz=>h z (List.mem_cons_of_mem _ hz)
  subst e
  have wa:∀z,z∈((⟨#[c]⟩:Str)++eh xs).cps.toList→z=c∨z∈(eh xs).cps.toList:=fun z hz=>by
   have:((⟨#[c]⟩:Str)++eh xs).cps= #[c]++(eh xs).cps:=rfl
   rw[this] at hz
   simpa using hz
  refine⟨⟨#[c]⟩::xs,?_,by simp[e2],?_,⟨?_,fun z hz=>?_⟩,fun z hz=>?_⟩
  ·show (tG ys).map _=_
   rw[e1]
   rfl
  ·rw[List.map_cons,List.sum_cons,e3]
   show 1+ys.length=_
   simp
   omega
  ·show ((⟨#[c]⟩:Str)++eh xs).length=_
   rw[ik,e4.len]
   show 1+ys.length=_
   simp
   omega
  ·rcases wa z hz with rfl | q
   ·exact hc.1
   ·exact e4.let' z q
  ·rcases wa z hz with rfl | q
   ·exact hc.2
   ·exact e5 z q
theorem Ct{lo:Int}{n:Nat}{d:D}(h:d∈fU lo n):∃i:Nat,i<n∧d= .int (lo+(i:Int)):=by
 unfold fU at h
 obtain⟨i,hi,e⟩:=List.mem_map.mp h
 exact⟨i,List.mem_range.mp hi,e.symm⟩
theorem EN{lo:Int}{n j:Nat}{d:D}(h:(fU lo n)[j]? =some d):j<n∧d= .int (lo+(j:Int)):=by
 unfold fU at h
 rw[List.getElem?_map] at h
 by_cases hj:j<n
 ·rw[List.getElem?_range hj] at h
  cases h
  exact⟨hj,rfl⟩
 ·rw[List.getElem?_eq_none (by simpa using hj)] at h
  cases h
theorem g9(lo:Int)(n:Nat):(fU lo n).length=n:=by simp[fU]
abbrev fz(d:D):Option Sl:=some (.fz d)
theorem kl{δe:DE}{ρ:aX}{d:D}:fF 0 cV δe ρ d=(δe (fz d::ρ)>>=fun y=>M.ret (some y)):=rfl
theorem FX{δt:DT}{δe:DE}{ρ:aX}{d:D}:fF 0 δt δe ρ d=(δt (fz d::ρ)>>=fun b=>if b then δe (fz d::ρ)>>=fun y=>M.ret (some y) else M.ret none):=rfl
theorem aj{a b:DS}{ρ ρ':aX}{o:M Out}(h:a ρ=M.ret (.nx ρ'))(h2:b ρ'=o):aB a b ρ=o:=by
 unfold aB
 rw[h]
 exact h2
theorem dg{a b:DS}{ρ:aX}{d:D}(h:a ρ=M.ret (.rt d)):aB a b ρ=M.ret (.rt d):=by
 unfold aB
 rw[h]
 rfl
theorem aM{i:Nat}{δ:DE}{ρ:aX}{d:D}(h:δ ρ=M.ret d):bJ i δ ρ=M.ret (.nx (ρ.set i (fz d))):=by
 unfold bJ
 rw[h]
 rfl
theorem ez{c:DT}{a b:DS}{ρ:aX}{o:M Out}(h:c ρ=M.ret true)(h2:a ρ=o):gq c a b ρ=o:=by
 unfold gq
 rw[h]
 exact h2
theorem cI{c:DT}{a b:DS}{ρ:aX}{o:M Out}(h:c ρ=M.ret false)(h2:b ρ=o):gq c a b ρ=o:=by
 unfold gq
 rw[h]
 exact h2
theorem aE{δ:DE}{ρ:aX}{d:D}(h:δ ρ=M.ret d):bt δ ρ=M.ret (.rt d):=by
 unfold bt
 rw[h]
 rfl
theorem br{δ:DE}{ρ:aX}{d:D}(h:δ ρ=M.ret d):fv δ ρ=M.ret (.nx ρ):=by
 unfold fv
 rw[h]
 rfl
theorem a_{n:Nat}{τ:DS}{ds:List D}{d:D}(h:τ (ds.map (fun d=>some (Sl.fz d))++List.replicate (n - ds.length) none)=M.ret (.rt d)):bV n τ ds=M.ret d:=by
 unfold bV
 rw[h]
 rfl
theorem j3{n:Nat}{τ:DS}{ds:List D}{ρ:aX}(h:τ (ds.map (fun d=>some (Sl.fz d))++List.replicate (n - ds.length) none)=M.ret (.nx ρ)):bV n τ ds=M.ret .non:=by
 unfold bV
 rw[h]
 rfl
theorem Cw{put:D→aX→Option aX}{δi:DA}{b:DS}{ρ:aX}{ds:List D}{o:Out}(h:δi ρ=M.ret ds)(h2:forL put b ds ρ=M.ret o):noex (dZ put δi b ρ)=M.ret o:=by
 unfold dZ
 rw[h,aq,h2]
 rfl
theorem bB{is:List Nat}{τ:DS}{ρ ρ':aX}(h:τ ρ=M.ret (.nx ρ')):cH is τ ρ=M.ret (.nx (fgt is ρ')):=by
 unfold cH
 rw[h]
 rfl
theorem dh{n:Nat}{δi:DA}{δt:DT}{δe:DE}{ρ:aX}{ds ys:List D}(h:δi ρ=M.ret ds)(h2:cZ (fF n δt δe ρ) ds=M.ret ys)(h3:ys.length≤lim):bT n δi δt δe ρ=M.ret (.lst ys):=by
 unfold bT
 rw[h,aq,h2,BA,aq,Bs h3]
theorem k0{n:Nat}(h:n≤4096):j2 [.int (n:Int)]=M.ret (fU 0 n):=by
 show (if -4096≤(n:Int)∧(n:Int)≤4096 then M.ret (fU 0 (n:Int).toNat) else M.stuck)=_
 rw[if_pos ⟨by omega,by omega⟩]
 rfl
structure Alpha (al:Str):Prop where
 pos:0<al.length
 ok:∀c∈al.cps.toList,lE c
theorem FQ:Alpha "ab"∧Alpha "abc"∧Alpha "aab"∧Alpha "fa":=by
 refine⟨⟨by decide+kernel,?_⟩,⟨by decide+kernel,?_⟩,⟨by decide+kernel,?_⟩,⟨by decide+kernel,?_⟩⟩<;>decide+kernel
theorem AY{x:Str}{i:Nat}(h:i<x.length):∃c,c∈x.cps.toList∧x.cps.toList[i]? =some c∧rP (.str x) (.int (i:Int))=M.ret (.str ⟨#[c]⟩):=by
 have h:i<x.cps.toList.length:=by rw[Array.length_toList];exact h
 refine⟨x.cps.toList[i],List.getElem_mem h,List.getElem?_eq_getElem h,?_⟩
 show (match L2.atI x.cps.toList (i:Int) with | some c=>M.ret (D.str ⟨#[c]⟩) | none=>M.stuck)=_
 rw[eJ (List.getElem?_eq_getElem h)]
abbrev brd(bd:List Str):D:= .tup (bd.map D.str)
abbrev sgn(at' mo:Nat)(ns:List Int)(W:Nat)(al:Str)(bd:List Str)(R:Nat)(x7 x8:Option Sl):aX:=[fz (.scr ns),fz (.int (at':Int)),fz (.int (mo:Int)),fz (.int (R:Int)),fz (.int (W:Int)),fz (.str al),fz (brd bd),x7,x8]
def NS:DE:=bT 0 (fun ρ=>(aC (dV 4) aN) ρ>>=j2) cV (d2 rP (dV 6) (ah 3 aQ (aC (dV 1) (aC (d2 dr (d2 dr (d2 dr (dV 2) (dC (.int 3))) (d2 gJ (dC (.int 7)) (dV 8))) (dV 0)) (aC (dA aU (aC (dV 6) aN)) aN)))))
theorem zS(at' mo:Nat)(ns:List Int)(hl:ns.length≤63)(al:Str)(ha:Alpha al)(j W R:Nat)(hW:W≤5)(bd:List Str)(x8:Option Sl):
 ∃ys,NS (sgn at' mo ns W al bd R (fz (.int (0+(j:Int)))) x8)=M.ret (.lst ys)∧ys.length=W∧∀y∈ys,∃c,y= .str ⟨#[c]⟩∧lE c:=by
 obtain⟨ys,e,Fw,hp⟩:=pY (f:=fF 0 cV (d2 rP (dV 6) (ah 3 aQ (aC (dV 1) (aC (d2 dr (d2 dr (d2 dr (dV 2) (dC (.int 3))) (d2 gJ (dC (.int 7)) (dV 8))) (dV 0)) (aC (dA aU (aC (dV 6) aN)) aN)))))
  (sgn at' mo ns W al bd R (fz (.int (0+(j:Int)))) x8)) (Pr:=fun y=>∃c,y= .str ⟨#[c]⟩∧lE c) (fU 0 W) fun d hd=>by
  obtain⟨i,hi,rfl⟩:=Ct hd
  obtain⟨v,hv,e⟩:=fH ns hl (at'+3+7*j+i) al.length ha.pos
  obtain⟨c,hc,_,e2⟩:=AY hv
  refine⟨.str ⟨#[c]⟩,?_,c,rfl,ha.ok c hc⟩
  rw[kl]
  have k:(at':Int)+3+7*(0+(j:Int))+(0+(i:Int))=((at'+3+7*j+i:Nat):Int):=by omega
  have m1:gJ (.int 7) (.int (0+(j:Int)))=M.ret (.int (7*(0+(j:Int)))):=eP (.inl ⟨by decide,by decide⟩)
  simp only[ah,d2,dV,dC,dA,aC,aN,aq,List.length_cons,List.length_nil,List.getElem?_cons_zero,List.getElem?_cons_succ,Nat.reduceAdd,if_true,gM,m1,k,aU,e,e2]
 refine⟨ys,dh (k0 (n:=W) (by omega)) e (by rw[Fw,g9,eA];omega),by rw[Fw,g9],hp⟩
def NT:DS:=bJ 6 (d2 gE (dV 6) (dA dP (aC (dM Jv joinM (dC (.str "")) (aC (dV 8) aN)) aN)))
theorem Dl(at' mo:Nat)(ns:List Int)(W:Nat)(al:Str)(bd:List Str)(R:Nat)(x7:Option Sl)(ys:List D)(hb:bd.length≤5)(hy:ys.length≤5)(s3:∀y∈ys,∃c,y= .str ⟨#[c]⟩∧lE c):
 ∃r,(Row ys.length r∧Km r)∧NT (sgn at' mo ns W al bd R x7 (fz (.lst ys)))=M.ret (.nx (sgn at' mo ns W al (bd++[r]) R x7 (fz (.lst ys)))):=by
 obtain⟨xs,t1,t2,t3,t4⟩:=vA ys s3
 refine⟨eh xs,t4,?_⟩
 have jn:joinM (.str "") [.lst ys]=M.ret (.str (eh xs)):=by
  show (match tG ys with | some (xs:List Str)=>if ("":Str).length=0∧(xs.map (fun x:Str=>x.length)).sum≤lim then M.ret (D.str (eh xs)) else M.stuck | none=>M.stuck)=_
  rw[t1]
  show (if ("":Str).length=0∧(xs.map (fun x:Str=>x.length)).sum≤lim then M.ret (D.str (eh xs)) else M.stuck)=_
  rw[if_pos ⟨rfl,by rw[t3,eA];omega⟩]
 have ct:gE (brd bd) (.tup [.str (eh xs)])=M.ret (brd (bd++[eh xs])):=by
  show (if (bd.map D.str).length+1≤lim then M.ret (D.tup (bd.map D.str++[.str (eh xs)])) else M.stuck)=_
  rw[if_pos (by rw[List.length_map,eA];omega)]
  simp[brd]
 refine(aM (d:=brd (bd++[eh xs])) ?_).trans rfl
 simp only[d2,dV,dC,dA,aC,aN,dM,Jv,aq,List.getElem?_cons_zero,List.getElem?_cons_succ,if_true,jn,dP,List.length_cons,List.length_nil,eA,Nat.reduceAdd,Nat.reduceLeDiff,ct]
theorem vR(ns:List Int)(hl:ns.length≤63)(at' mo:Nat)(m0:0<mo)(m5:mo≤5):∃bd W,Good bd W∧(∀r∈bd,Km r)∧bd.length≤mo∧W≤mo∧cC [.scr ns, .int (at':Int), .int (mo:Int)]=M.ret (brd bd):=by
 obtain⟨r,hr,e1⟩:=fH ns hl at' mo m0
 obtain⟨c,hc,e2⟩:=fH ns hl (at'+1) mo m0
 obtain⟨a,ha,e3⟩:=fH ns hl (at'+2) 4 (by decide)
 obtain⟨al,IS,e4⟩:∃al,Alpha al∧fI (.lst [.str "ab", .str "abc", .str "aab", .str "fa"]) (.int (a:Int))=M.ret (.str al):=by
  obtain⟨a1,a2,a3,a4⟩:=FQ
  match a,ha with
  |0,_=>exact⟨_,a1,rfl⟩
  |1,_=>exact⟨_,a2,rfl⟩
  |2,_=>exact⟨_,a3,rfl⟩
  |3,_=>exact⟨_,a4,rfl⟩
 have k1:(1:Int)+(r:Int)=((r+1:Nat):Int):=by omega
 have k2:(1:Int)+(c:Int)=((c+1:Nat):Int):=by omega
 have z_:aQ [.scr ns, .int (at':Int), .int (mo:Int)]=M.ret (.int (r:Int)):=e1
 have HX:aQ [.scr ns, .int ((at':Int)+1), .int (mo:Int)]=M.ret (.int (c:Int)):=e2
 have Kp:aQ [.scr ns, .int ((at':Int)+2), .int 4]=M.ret (.int (a:Int)):=e3
 obtain⟨ρ',f1,bd,f2,f3,f4⟩:=uf (put:=putN 7) (body:=cH [7,8] (aB (bJ 8 NS) NT))
  (I:=fun i ρ=>∃bd,ρ=sgn at' mo ns (c+1) al bd (r+1) none none∧bd.length=i∧∀z∈bd,Row (c+1) z∧Km z)
  (fU 0 (r+1)) 0 (sgn at' mo ns (c+1) al [] (r+1) none none) ⟨[],rfl,rfl,fun _ h=>by cases h⟩ fun j d hd ρ ⟨bd,hρ,hb,hw⟩=>by
   obtain⟨hj,rfl⟩:=EN hd
   subst hρ
   obtain⟨ys,s1,s2,s3⟩:=zS at' mo ns hl al IS j (c+1) (r+1) (by omega) bd none
   obtain⟨Ae,t1,t2⟩:=Dl at' mo ns (c+1) al bd (r+1) (fz (.int (0+(j:Int)))) ys (by omega) (by omega) s3
   refine⟨_,_,rfl,bB (aj (aM s1) t2),bd++[Ae],rfl,by simp[hb],fun z hz=>?_⟩
   rcases List.mem_append.mp hz with h | h
   ·exact hw z h
   ·have h:z=Ae:=by simpa using h
    subst h
    rw[s2] at t1
    exact t1
 refine⟨bd,c+1,⟨by rw[f3,g9];omega,by rw[f3,g9];omega,by omega,by omega,fun r q=>(f4 r q).1⟩,fun r q=>(f4 r q).2,by rw[f3,g9];omega,by omega,?_⟩
 subst f2
 refine a_ ?_
 refine aj (aM (d:= .int ((r+1:Nat):Int)) ?_) ?_
 ·simp only[ah,d2,dV,dC,aC,aN,aq,List.map_cons,List.map_nil,List.cons_append,List.nil_append,List.length_cons,List.length_nil,List.getElem?_cons_zero,List.getElem?_cons_succ,Nat.reduceAdd,if_true,gM,z_,k1]
 refine aj (aM (d:= .int ((c+1:Nat):Int)) ?_) ?_
 ·simp only[ah,d2,dV,dC,aC,aN,aq,List.map_cons,List.map_nil,List.cons_append,List.nil_append,List.length_cons,List.length_nil,List.replicate,List.set_cons_zero,List.set_cons_succ,Nat.reduceSub,List.getElem?_cons_zero,List.getElem?_cons_succ,Nat.reduceAdd,if_true,gM,HX,k2]
 refine aj (aM (d:= .str al) ?_) ?_
 ·simp only[ah,d2,dV,dC,dA,aC,aN,aq,List.map_cons,List.map_nil,List.cons_append,List.nil_append,List.length_cons,List.length_nil,List.replicate,List.set_cons_zero,List.set_cons_succ,Nat.reduceSub,List.getElem?_cons_zero,List.getElem?_cons_succ,Nat.reduceAdd,if_true,gM,Kp,fN,eA,Nat.reduceLeDiff,e4]
 refine aj (aM (d:= .tup []) rfl) ?_
 refine aj (Cw (k0 (n:=r+1) (by omega)) f1) ?_
 exact aE rfl
theorem vS(ns:List Int)(hl:ns.length≤63)(at' mo:Nat)(m0:0<mo)(m5:mo≤5):∃bd W,Good bd W∧bd.length≤mo∧W≤mo∧cC [.scr ns, .int (at':Int), .int (mo:Int)]=M.ret (brd bd):=
 let ⟨bd,W,h1,_,h2⟩:=vR ns hl at' mo m0 m5
 ⟨bd,W,h1,h2⟩
theorem yH(ns:List Int)(hl:ns.length≤63)(at' mo:Nat)(m0:0<mo)(m5:mo≤5):∃bd W,Good bd W∧cC [.scr ns, .int (at':Int), .int (mo:Int)]=M.ret (brd bd):=by
 obtain⟨bd,W,h1,_,_,h2⟩:=vS ns hl at' mo m0 m5
 exact⟨bd,W,h1,h2⟩
def Plain:D→Prop
 | .non | .bl _ | .int _ | .str _ | .tup _ | .lst _=>True
 |_=>False
def isStr:D→Bool
 | .str _=>true
 |_=>false
def isTup:D→Bool
 | .tup _=>true
 |_=>false
theorem e9{d:D}(h:Plain d):gK [d, .raw (.ty "str")]=M.ret (.bl (isStr d)):=by
 cases d<;>first | rfl | exact h.elim
theorem mI{d:D}(h:Plain d):gK [d, .raw (.ty "tuple")]=M.ret (.bl (isTup d)):=by
 cases d<;>first | rfl | exact h.elim
def rZ:D→Bool
 | .str x=>(x.length==1)&&GK x
 |_=>false
theorem km{ρ:aX}{i:Nat}{d:D}(h:ρ[i]? =some (fz d)):dV i ρ=M.ret d:=by
 unfold dV
 rw[h]
theorem eq_int(i j:Int):kx (.int i) (.int j)=M.ret (.bl (i==j)):=rfl
theorem ne_int(i j:Int):ky (.int i) (.int j)=M.ret (.bl (!(i==j))):=rfl
theorem len_str(x:Str):aU [.str x]=M.ret (.int (x.length:Int)):=rfl
theorem in_str(x:Str):AW false (.str x) (.str "abcdef")=M.ret (.bl (GK x)):=rfl
theorem jL(a b:Nat):((a:Int)==(b:Int))=(a==b):=by
 by_cases h:a=b
 ·subst h;simp
 ·have h2:¬(a:Int)=(b:Int):=by omega
  rw[beq_eq_false_iff_ne.mpr h,beq_eq_false_iff_ne.mpr h2]
theorem D5{d:D}(h:Plain d){i:Nat}{ρ:aX}(hρ:ρ[i]? =some (fz d)):
 eL (dA gK (aC (dV i) (aC (dC (.raw (.ty "str"))) aN))) (eL (d2 kx (dA aU (aC (dV i) aN)) (dC (.int 1))) (d2 (AW false) (dV i) (dC (.str "abcdef")))) ρ=M.ret (.bl (rZ d)):=by
 have hv:=km hρ
 have e1:=jL
 cases d with
 |str x=>
  have k:((x.length:Int)==1)=(x.length==1):=jL x.length 1
  simp only[eL,dA,aC,aN,dC,d2,hv,aq,e9 h,isStr,z9,if_true,len_str,eq_int,k,in_str,rZ]
  cases x.length==1<;>rfl
 |non=>simp only[eL,dA,aC,aN,dC,d2,hv,aq,e9 h,isStr,z9,if_false,Bool.false_eq_true,rZ]
 |bl b=>simp only[eL,dA,aC,aN,dC,d2,hv,aq,e9 h,isStr,z9,if_false,Bool.false_eq_true,rZ]
 |int b=>simp only[eL,dA,aC,aN,dC,d2,hv,aq,e9 h,isStr,z9,if_false,Bool.false_eq_true,rZ]
 |tup b=>simp only[eL,dA,aC,aN,dC,d2,hv,aq,e9 h,isStr,z9,if_false,Bool.false_eq_true,rZ]
 |lst b=>simp only[eL,dA,aC,aN,dC,d2,hv,aq,e9 h,isStr,z9,if_false,Bool.false_eq_true,rZ]
 |raw _=>exact h.elim
 |exc _=>exact h.elim
 |scr _=>exact h.elim
 |dct _ _=>exact h.elim
 |dci _ _=>exact h.elim
theorem pC{d:D}(h:Plain d):cB [d]=M.ret (.bl (rZ d)):=a_ (aE (D5 h rfl))
def iA(x:Str):Bool:=x.cps.toList.all fun c=>GK ⟨#[c]⟩
def mz:D→Bool
 | .str x=>(decide (1≤x.length)&&decide (x.length≤8))&&iA x
 |_=>false
theorem yI(l:List Bool):bools (l.map D.bl)=some l:=by
 induction l with
 |nil=>rfl
 |cons b r ih=>show (bools (r.map D.bl)).map _=_;rw[ih];rfl
theorem all_map(l:List Bool):allM [.lst (l.map D.bl)]=M.ret (.bl (l.all id)):=by
 show (match bools (l.map D.bl) with | some bs=>M.ret (D.bl (bs.all id)) | none=>M.stuck)=_
 rw[yI]
theorem Az{δ:DE}{ρ:aX}{n:Nat}(h:δ ρ=M.ret (.int (n:Int))):
 cY (vV (fun i j=>decide (i≤j)) (fun i j=>decide (i≤j)) (dC (.int 1)) δ (dC (.int 8))) ρ=M.ret (decide (1≤n)&&decide (n≤8)):=by
 have k1:decide ((1:Int)≤(n:Int))=decide (1≤n):=by by_cases h:1≤n<;>simp[h]<;>omega
 have k2:decide ((n:Int)≤8)=decide (n≤8):=by by_cases h:n≤8<;>simp[h]<;>omega
 simp only[cY,vV,dC,h,aq,k1,k2,gI,z9]
 cases decide (1≤n)<;>rfl
theorem wj{d:D}(h:Plain d):eN [d]=M.ret (.bl (mz d)):=by
 refine a_ ?_
 have hρ:([d].map (fun d=>some (Sl.fz d))++List.replicate (1 - [d].length) none)=[fz d]:=rfl
 rw[hρ]
 have hv:dV 0 [fz d]=M.ret d:=rfl
 have no:isStr d=false→vE [fz d]=M.ret (.rt (.bl false)):=fun hs=>by
  refine dg (ez ?_ (aE rfl))
  simp only[i6,cN,bW,dA,aC,aN,dC,hv,aq,e9 h,hs,vz,Bool.not_false,if_true]
 cases d with
 |str x=>
  have hi:bW (dA gK (aC (dV 0) (aC (dC (.raw (.ty "str"))) aN))) [fz (.str x)]=M.ret true:=by
   simp only[bW,dA,aC,aN,dC,hv,aq,e9 h,isStr,vz]
  have hl:dA aU (aC (dV 0) aN) [fz (.str x)]=M.ret (.int (x.length:Int)):=rfl
  have hc:=Az hl
  by_cases hr:(decide (1≤x.length)&&decide (x.length≤8))=true
  ·rw[hr] at hc
   refine aj (cI ?_ (ρ:=[fz (.str x)]) rfl) (aE ?_)
   ·unfold i6 cN
    rw[hi,aq,aq,hc]
    rfl
   ·have hb:x.length≤8:=by simp only[Bool.and_eq_true,decide_eq_true_eq] at hr;exact hr.2
    have cm:bT 0 (fun ρ=>(dV 0) ρ>>=HH) cV (ah 1 cB (aC (dV 0) aN)) [fz (.str x)]=M.ret (.lst ((x.cps.toList.map fun c=>GK ⟨#[c]⟩).map D.bl)):=by
     refine dh (ds:=signs x) rfl ?_ ?_
     ·have:=fG (f:=fF 0 cV (ah 1 cB (aC (dV 0) aN)) [fz (.str x)]) (g:=fun d=>D.bl (rZ d)) (signs x) fun d hd=>by
       rw[kl]
       obtain⟨c,_,rfl⟩:=List.mem_map.mp hd
       show (cB [.str ⟨#[c]⟩]>>=fun y=>M.ret (some y))=_
       rw[pC (d:= .str ⟨#[c]⟩) trivial]
       rfl
      rw[this]
      unfold signs
      rw[List.map_map,List.map_map]
      congr 1
     ·rw[List.length_map,List.length_map,Array.length_toList,eA]
      exact Nat.le_trans hb (by decide)
    rw[cu (aJ cm rfl),all_map]
    show M.ret (D.bl ((x.cps.toList.map fun c=>GK ⟨#[c]⟩).all id))=M.ret (D.bl ((decide (1≤x.length)&&decide (x.length≤8))&&iA x))
    rw[hr]
    unfold iA
    rw[List.all_map]
    rfl
  ·have hr:(decide (1≤x.length)&&decide (x.length≤8))=false:=by simpa using hr
   rw[hr] at hc
   have:mz (.str x)=false:=by
    show ((decide (1≤x.length)&&decide (x.length≤8))&&iA x)=false
    rw[hr];rfl
   rw[this]
   refine dg (ez ?_ (aE rfl))
   unfold i6 cN
   rw[hi,aq,aq,hc]
   rfl
 |non=>exact no rfl
 |bl b=>exact no rfl
 |int b=>exact no rfl
 |tup b=>exact no rfl
 |lst b=>exact no rfl
 |raw _=>exact h.elim
 |exc _=>exact h.elim
 |scr _=>exact h.elim
 |dct _ _=>exact h.elim
 |dci _ _=>exact h.elim
def i8:D→Nat
 | .str x=>x.length
 |_=>0
def mS:D→Bool
 | .tup ds=>(decide (1≤ds.length)&&decide (ds.length≤8))&&(ds.all mz&&ds.all fun d=>i8 d==i8 (ds.headD .non))
 |_=>false
def Plain2:D→Prop
 | .tup ds=>∀d∈ds,Plain d
 |d=>Plain d
theorem Plain2.plain{d:D}(h:Plain2 d):Plain d:=by
 cases d<;>first | exact h | exact trivial
theorem Pk{ρ:aX}{i:Nat}{ds:List D}(h:ρ[i]? =some (fz (.tup ds))):pj (dV i) ρ=M.ret ds:=by
 unfold pj
 rw[km h]
 rfl
theorem D4{ds:List D}:aU [.tup ds]=M.ret (.int (ds.length:Int)):=rfl
theorem Mb{ds:List D}{d:D}{r:List D}(h:ds=d::r):bu (.tup ds) (.int 0)=M.ret d:=by
 subst h
 show (match L2.atI (d::r) ((0:Nat):Int) with | some d=>M.ret d | none=>M.stuck)=_
 rw[eJ (x:=d) rfl]
theorem EO{d:D}(h:mz d=true):∃x,d= .str x:=by
 cases d<;>first | exact⟨_,rfl⟩ | cases h
theorem yW{d:D}(h:Plain d):i6 (cN (bW (dA gK (aC (dV 0) (aC (dC (.raw (.ty "tuple"))) aN))))) (cN (cY (vV (fun i j=>decide (i≤j)) (fun i j=>decide (i≤j)) (dC (.int 1)) (dA aU (aC (dV 0) aN)) (dC (.int 8))))) [fz d]=
 M.ret (match d with | .tup ds=>!(decide (1≤ds.length)&&decide (ds.length≤8)) | _=>true):=by
 have hv:dV 0 [fz d]=M.ret d:=rfl
 have no:isTup d=false→i6 (cN (bW (dA gK (aC (dV 0) (aC (dC (.raw (.ty "tuple"))) aN))))) (cN (cY (vV (fun i j=>decide (i≤j)) (fun i j=>decide (i≤j)) (dC (.int 1)) (dA aU (aC (dV 0) aN)) (dC (.int 8))))) [fz d]=M.ret true:=fun hs=>by
  simp only[i6,cN,bW,dA,aC,aN,dC,hv,aq,mI h,hs,vz,Bool.not_false,if_true]
 cases d with
 |tup ds=>
  have hi:bW (dA gK (aC (dV 0) (aC (dC (.raw (.ty "tuple"))) aN))) [fz (.tup ds)]=M.ret true:=by
   simp only[bW,dA,aC,aN,dC,hv,aq,mI h,isTup,vz]
  have hl:dA aU (aC (dV 0) aN) [fz (.tup ds)]=M.ret (.int (ds.length:Int)):=rfl
  unfold i6 cN
  rw[hi,aq,aq,Az hl]
  rfl
 |non=>exact no rfl
 |bl b=>exact no rfl
 |int b=>exact no rfl
 |str b=>exact no rfl
 |lst b=>exact no rfl
 |raw _=>exact h.elim
 |exc _=>exact h.elim
 |scr _=>exact h.elim
 |dct _ _=>exact h.elim
 |dci _ _=>exact h.elim
theorem all_rows{ds:List D}(h:∀d∈ds,Plain d)(hl:ds.length≤8):dA allM (aC (bT 0 (pj (dV 0)) cV (ah 1 eN (aC (dV 0) aN))) aN) [fz (.tup ds)]=M.ret (.bl (ds.all mz)):=by
 have cm:bT 0 (pj (dV 0)) cV (ah 1 eN (aC (dV 0) aN)) [fz (.tup ds)]=M.ret (.lst ((ds.map mz).map D.bl)):=by
  refine dh (ds:=ds) rfl ?_ (by rw[List.length_map,List.length_map,eA];omega)
  rw[List.map_map]
  refine fG (g:=D.bl∘mz) ds fun d hd=>?_
  rw[kl]
  show (eN [d]>>=fun y=>M.ret (some y))=_
  rw[wj (h d hd)]
  rfl
 rw[cu (aJ cm rfl),all_map,List.all_map]
 rfl
theorem all_lens{ds:List D}(hs:∀d∈ds,∃x,d= .str x)(h0:1≤ds.length)(hl:ds.length≤8):
 dA allM (aC (bT 0 (pj (dV 0)) cV (d2 kx (dA aU (aC (dV 0) aN)) (dA aU (aC (d2 bu (dV 1) (dC (.int 0))) aN)))) aN) [fz (.tup ds)]=M.ret (.bl (ds.all fun d=>i8 d==i8 (ds.headD .non))):=by
 obtain⟨d0,r,e0⟩:∃d0 r,ds=d0::r:=by
  cases ds with
  |nil=>simp at h0
  |cons a r=>exact⟨a,r,rfl⟩
 have hh:ds.headD .non=d0:=by rw[e0];rfl
 obtain⟨x0,Nz⟩:=hs d0 (by rw[e0];exact List.mem_cons_self ..)
 have cm:bT 0 (pj (dV 0)) cV (d2 kx (dA aU (aC (dV 0) aN)) (dA aU (aC (d2 bu (dV 1) (dC (.int 0))) aN))) [fz (.tup ds)]=M.ret (.lst ((ds.map fun d=>i8 d==i8 (ds.headD .non)).map D.bl)):=by
  refine dh (ds:=ds) rfl ?_ (by rw[List.length_map,List.length_map,eA];omega)
  rw[List.map_map]
  refine fG (g:=D.bl∘fun d=>i8 d==i8 (ds.headD .non)) ds fun d hd=>?_
  rw[kl]
  obtain⟨x,rfl⟩:=hs d hd
  have k:((x.length:Int)==(x0.length:Int))=(x.length==x0.length):=jL _ _
  have i0:bu (.tup ds) (.int 0)=M.ret (.str x0):=by rw[Mb e0,Nz]
  have OF:ds.headD .non= .str x0:=by rw[hh,Nz]
  simp only[d2,dA,aC,aN,dC,dV,aq,List.getElem?_cons_zero,List.getElem?_cons_succ,len_str,i0,eq_int,k,Function.comp,i8,OF]
 rw[cu (aJ cm rfl),all_map,List.all_map]
 rfl
theorem rW{d:D}(h:Plain2 d):f9 [d]=M.ret (.bl (mS d)):=by
 refine a_ ?_
 have hρ:([d].map (fun d=>some (Sl.fz d))++List.replicate (1 - [d].length) none)=[fz d]:=rfl
 rw[hρ]
 have hf:=yW h.plain
 have no:(∀ds,d≠ .tup ds)→o4 [fz d]=M.ret (.rt (.bl (mS d))):=fun hn=>by
  cases d<;>first | exact absurd rfl (hn _) | exact dg (ez hf (aE rfl))
 cases d with
 |tup ds=>
  have hf:_=M.ret (!(decide (1≤ds.length)&&decide (ds.length≤8))):=hf
  by_cases hr:(decide (1≤ds.length)&&decide (ds.length≤8))=true
  ·rw[hr] at hf
   have hb:=hr
   simp only[Bool.and_eq_true,decide_eq_true_eq] at hb
   have e:mS (.tup ds)=(ds.all mz&&ds.all fun d=>i8 d==i8 (ds.headD .non)):=by
    show ((decide (1≤ds.length)&&decide (ds.length≤8))&&_)=_
    rw[hr,Bool.true_and]
   rw[e]
   have a1:=all_rows h hb.2
   refine aj (cI hf rfl) ?_
   cases hc:ds.all mz with
   |false=>
    rw[hc] at a1
    refine dg (ez ?_ (aE rfl))
    unfold cN bW
    rw[a1]
    rfl
   |true=>
    rw[hc] at a1
    refine aj (cI ?_ rfl) (aE ?_)
    ·unfold cN bW
     rw[a1]
     rfl
    ·rw[Bool.true_and]
     exact all_lens (fun d hd=>EO (List.all_eq_true.mp hc d hd)) hb.1 hb.2
  ·have hr:(decide (1≤ds.length)&&decide (ds.length≤8))=false:=by simpa using hr
   rw[hr] at hf
   have e:mS (.tup ds)=false:=by
    show ((decide (1≤ds.length)&&decide (ds.length≤8))&&_)=_
    rw[hr];rfl
   rw[e]
   exact dg (ez hf (aE rfl))
 |non=>exact no fun _ z=>by cases z
 |bl b=>exact no fun _ z=>by cases z
 |int b=>exact no fun _ z=>by cases z
 |str b=>exact no fun _ z=>by cases z
 |lst b=>exact no fun _ z=>by cases z
 |raw _=>exact h.elim
 |exc _=>exact h.elim
 |scr _=>exact h.elim
 |dct _ _=>exact h.elim
 |dci _ _=>exact h.elim
structure Brd (ob:List Str) (V:Nat):Prop where
 r1:1≤ob.length
 r8:ob.length≤8
 w1:1≤V
 w8:V≤8
 rows:∀r∈ob,Row V r
theorem Good.brd{bd:List Str}{W:Nat}(hg:Good bd W):Brd bd W:=⟨hg.r1,by have:=hg.r5;omega,hg.w1,by have:=hg.w5;omega,hg.rows⟩
theorem Brd.board{ob:List Str}{V:Nat}(h:Brd ob V):mS (brd ob)=true:=by
 have LW:∀r∈ob,mz (.str r)=true:=fun r hr=>by
  have q:=h.rows r hr
  show ((decide (1≤r.length)&&decide (r.length≤8))&&iA r)=true
  rw[q.len]
  have a:decide (1≤V)=true:=decide_eq_true h.w1
  have b:decide (V≤8)=true:=decide_eq_true h.w8
  rw[a,b]
  show iA r=true
  exact List.all_eq_true.mpr fun c hc=>q.let' c hc
 have h0:i8 ((ob.map D.str).headD .non)=V:=by
  have:=h.r1
  have hr:=h.rows
  cases ob with
  |nil=>simp at this
  |cons x l=>exact(hr x (List.mem_cons_self ..)).len
 show ((decide (1≤(ob.map D.str).length)&&decide ((ob.map D.str).length≤8))&&((ob.map D.str).all mz&&(ob.map D.str).all fun d=>i8 d==i8 ((ob.map D.str).headD .non)))=true
 rw[h0,List.length_map,decide_eq_true h.r1,decide_eq_true h.r8]
 have a:(ob.map D.str).all mz=true:=List.all_eq_true.mpr fun d hd=>by
  obtain⟨r,hr,rfl⟩:=List.mem_map.mp hd
  exact LW r hr
 have b:((ob.map D.str).all fun d=>i8 d==V)=true:=List.all_eq_true.mpr fun d hd=>by
  obtain⟨r,hr,rfl⟩:=List.mem_map.mp hd
  show (r.length==V)=true
  rw[(h.rows r hr).len]
  simp
 rw[a,b]
 rfl
theorem yJ{bd:List Str}:Plain2 (brd bd):=fun d hd=>by
 obtain⟨r,_,rfl⟩:=List.mem_map.mp hd
 trivial
theorem rG{δ:DE}{ρ:aX}{b:Bool}(h:δ ρ=M.ret (.bl b)):bW δ ρ=M.ret b:=by
 unfold bW
 rw[h]
 rfl
theorem ek{δ:DE}{ρ:aX}{b:Bool}(h:δ ρ=M.ret (.bl b)):cY δ ρ=M.ret b:=by
 unfold cY
 rw[h]
 rfl
theorem AD{τ:DT}{ρ:aX}{b:Bool}(h:τ ρ=M.ret b):cN τ ρ=M.ret (!b):=by
 unfold cN
 rw[h]
 rfl
theorem t7{a c:DT}{ρ:aX}{p q:Bool}(h1:a ρ=M.ret p)(h2:c ρ=M.ret q):i6 a c ρ=M.ret (p||q):=by
 unfold i6
 rw[h1,aq]
 cases p
 ·exact h2
 ·rfl
theorem vX{a c:DT}{ρ:aX}{p q:Bool}(h1:a ρ=M.ret p)(h2:c ρ=M.ret q):ph a c ρ=M.ret (p&&q):=by
 unfold ph
 rw[h1,aq]
 cases p
 ·rfl
 ·exact h2
theorem Brd.nb{ob:List Str}{V:Nat}(h:Brd ob V):aK [brd ob]=M.ret .non:=by
 refine j3 (ρ:=[fz (brd ob)]) (cI (AD (rG (b:=true) ?_)) rfl)
 refine(ak (ds:=[brd ob]) rfl rfl).trans ?_
 rw[rW yJ,h.board]
theorem Brd.len0{ob:List Str}{V:Nat}(h:Brd ob V){i:Nat}{ρ:aX}(hρ:ρ[i]? =some (fz (brd ob))):dA aU (aC (d2 bu (dV i) (dC (.int 0))) aN) ρ=M.ret (.int (V:Int)):=by
 have h1:=h.r1
 have hr:=h.rows
 obtain⟨x,l,e⟩:∃x l,ob=x::l:=by
  cases ob with
  |nil=>simp at h1
  |cons x l=>exact⟨x,l,rfl⟩
 have hx:x.length=V:=(hr x (by rw[e];exact List.mem_cons_self ..)).len
 have i0:bu (brd ob) (.int 0)=M.ret (.str x):=Mb (show ob.map D.str=D.str x::l.map D.str by rw[e];rfl)
 have k:=aL (g:=bu) (km hρ) (show dC (.int 0) ρ=M.ret (.int 0) from rfl)
 rw[i0] at k
 rw[cu (aJ (xs:=[]) k rfl)]
 show M.ret (D.int (x.length:Int))=_
 rw[hx]
theorem rY{bd:List Str}{i:Nat}{ρ:aX}(hρ:ρ[i]? =some (fz (brd bd))):dA aU (aC (dV i) aN) ρ=M.ret (.int (bd.length:Int)):=by
 have:aU [brd bd]=M.ret (.int (bd.length:Int)):=by
  show M.ret (D.int ((bd.map D.str).length:Int))=_
  rw[List.length_map]
 simp only[dA,aC,aN,km hρ,aq,this]
def gD:D→Bool
 | .int _=>true
 |_=>false
theorem ri{d:D}(h:Plain d):bq [d]=M.ret (.bl (gD d)):=by
 cases d<;>first | rfl | exact h.elim
def Iu(R W:Nat):D→D→Bool
 | .int a, .int b=>(decide (0≤a)&&decide (a<(R:Int)))&&(decide (0≤b)&&decide (b<(W:Int)))
 |_,_=>false
def Fc(R W:Nat):D→Bool
 | .tup [u,v]=>Iu R W u v
 |_=>false
theorem Iw{δ ε:DE}{ρ:aX}{i n:Int}(h:δ ρ=M.ret (.int i))(h2:ε ρ=M.ret (.int n)):
 vV (fun i j=>decide (i≤j)) (fun i j=>decide (i<j)) (dC (.int 0)) δ ε ρ=M.ret (.bl (decide (0≤i)&&decide (i<n))):=by
 simp only[vV,dC,h,h2,aq,gI]
 cases decide (0≤i)<;>rfl
theorem ur{bd:List Str}{W:Nat}(hg:Brd bd W){d:D}(h:Plain2 d):iu [brd bd,d]=M.ret (.bl (Fc bd.length W d)):=by
 refine a_ ?_
 have hρ:([brd bd,d].map (fun d=>some (Sl.fz d))++List.replicate (2 - [brd bd,d].length) none)=[fz (brd bd),fz d]:=rfl
 rw[hρ]
 have hv:dV 1 [fz (brd bd),fz d]=M.ret d:=rfl
 have no:isTup d=false→rj [fz (brd bd),fz d]=M.ret (.rt (.bl false)):=fun hs=>by
  refine dg (ez ?_ (aE rfl))
  simp only[i6,cN,bW,dA,aC,aN,dC,hv,aq,mI h.plain,hs,vz,Bool.not_false,if_true]
 cases d with
 |tup ds=>
  have hi:cN (bW (dA gK (aC (dV 1) (aC (dC (.raw (.ty "tuple"))) aN)))) [fz (brd bd),fz (.tup ds)]=M.ret false:=by
   simp only[cN,bW,dA,aC,aN,dC,hv,aq,mI h.plain,isTup,vz,Bool.not_true]
  have k:((ds.length:Int)==2)=(ds.length==2):=jL ds.length 2
  have hl:i6 (cN (bW (dA gK (aC (dV 1) (aC (dC (.raw (.ty "tuple"))) aN))))) (cY (d2 ky (dA aU (aC (dV 1) aN)) (dC (.int 2)))) [fz (brd bd),fz (.tup ds)]=M.ret (!(ds.length==2)):=by
   unfold i6
   rw[hi]
   simp only[cY,d2,dA,aC,aN,dC,hv,aq,D4,ne_int,k,z9,Bool.false_eq_true,if_false]
  match ds,h,hl with
  |[],h,hl=>exact dg (ez hl (aE rfl))
  |[_],h,hl=>exact dg (ez hl (aE rfl))
  |_::_::_::_,h,hl=>
   refine dg (ez (hl.trans ?_) (aE rfl))
   simp
  |[u,v],h,hl=>
   refine aj (cI hl rfl) ?_
   have pu:Plain u:=h u (by simp)
   have pv:Plain v:=h v (by simp)
   have w1:ah 1 bq (aC (d2 bu (dV 1) (dC (.int 0))) aN) [fz (brd bd),fz (.tup [u,v])]=M.ret (.bl (gD u)):=ri pu
   have w2:ah 1 bq (aC (d2 bu (dV 1) (dC (.int 1))) aN) [fz (brd bd),fz (.tup [u,v])]=M.ret (.bl (gD v)):=ri pv
   have hw:i6 (cN (bW (ah 1 bq (aC (d2 bu (dV 1) (dC (.int 0))) aN)))) (cN (bW (ah 1 bq (aC (d2 bu (dV 1) (dC (.int 1))) aN)))) [fz (brd bd),fz (.tup [u,v])]=M.ret (!(gD u&&gD v)):=by
    unfold i6 cN bW
    rw[w1,w2]
    simp only[aq,vz]
    cases gD u<;>cases gD v<;>rfl
   have bad:(gD u&&gD v)=false→aB (gq (i6 (cN (bW (ah 1 bq (aC (d2 bu (dV 1) (dC (.int 0))) aN)))) (cN (bW (ah 1 bq (aC (d2 bu (dV 1) (dC (.int 1))) aN))))) (bt (dC (.bl false))) cJ) (bt (eL (vV (fun i j=>decide (i≤j)) (fun i j=>decide (i<j)) (dC (.int 0)) (d2 bu (dV 1) (dC (.int 0))) (dA aU (aC (dV 0) aN))) (vV (fun i j=>decide (i≤j)) (fun i j=>decide (i<j)) (dC (.int 0)) (d2 bu (dV 1) (dC (.int 1))) (dA aU (aC (d2 bu (dV 0) (dC (.int 0))) aN))))) [fz (brd bd),fz (.tup [u,v])]=M.ret (.rt (.bl false)):=fun hz=>by
    rw[hz] at hw
    exact dg (ez hw (aE rfl))
   match u,v,hw,bad with
   | .int a, .int b,hw,bad=>
     refine aj (cI hw rfl) (aE ?_)
     obtain⟨x0,r,e0⟩:∃x0 r,bd=x0::r:=by
      have:=hg.r1
      cases bd with
      |nil=>simp at this
      |cons x r=>exact⟨x,r,rfl⟩
     have hx:x0.length=W:=(hg.rows x0 (by rw[e0];simp)).len
     have l0:dA aU (aC (dV 0) aN) [fz (brd bd),fz (.tup [.int a, .int b])]=M.ret (.int (bd.length:Int)):=by
      show M.ret (D.int ((bd.map D.str).length:Int))=_
      rw[List.length_map]
     have l1:dA aU (aC (d2 bu (dV 0) (dC (.int 0))) aN) [fz (brd bd),fz (.tup [.int a, .int b])]=M.ret (.int (W:Int)):=by
      have i0:bu (brd bd) (.int 0)=M.ret (.str x0):=Mb (r:=r.map D.str) (by rw[e0];rfl)
      simp only[dA,aC,aN,d2,dC,dV,List.getElem?_cons_zero,aq,i0,len_str,hx]
     have c1:=Iw (δ:=d2 bu (dV 1) (dC (.int 0))) (i:=a) rfl l0
     have c2:=Iw (δ:=d2 bu (dV 1) (dC (.int 1))) (i:=b) rfl l1
     unfold eL
     rw[c1,aq]
     show (if (decide (0≤a)&&decide (a<(bd.length:Int)))=true then _ else _)=M.ret (D.bl ((decide (0≤a)&&decide (a<(bd.length:Int)))&&(decide (0≤b)&&decide (b<(W:Int)))))
     cases (decide (0≤a)&&decide (a<(bd.length:Int)))
     ·rfl
     ·rw[if_pos rfl,c2,Bool.true_and]
   | .non,_,_,bad=>exact bad rfl
   | .bl _,_,_,bad=>exact bad rfl
   | .str _,_,_,bad=>exact bad rfl
   | .tup _,_,_,bad=>exact bad rfl
   | .lst _,_,_,bad=>exact bad rfl
   | .raw _,_,_,_=>exact pu.elim
   | .exc _,_,_,_=>exact pu.elim
   | .scr _,_,_,_=>exact pu.elim
   | .int a, .non,_,bad=>exact bad rfl
   | .int a, .bl _,_,bad=>exact bad rfl
   | .int a, .str _,_,bad=>exact bad rfl
   | .int a, .tup _,_,bad=>exact bad rfl
   | .int a, .lst _,_,bad=>exact bad rfl
   | .int a, .raw _,_,_=>exact pv.elim
   | .int a, .exc _,_,_=>exact pv.elim
   | .int a, .scr _,_,_=>exact pv.elim
 |non=>exact no rfl
 |bl b=>exact no rfl
 |int b=>exact no rfl
 |str b=>exact no rfl
 |lst b=>exact no rfl
 |raw _=>exact h.elim
 |exc _=>exact h.elim
 |scr _=>exact h.elim
 |dct _ _=>exact h.elim
 |dci _ _=>exact h.elim
abbrev Cell:=Nat×Nat
def cD(c:Cell):D:= .tup [.int (c.1:Int), .int (c.2:Int)]
def On(R W:Nat)(c:Cell):Prop:=c.1<R∧c.2<W
instance {R W:Nat}{c:Cell}:Decidable (On R W c):=by unfold On;infer_instance
theorem As{c:Cell}:Plain2 (cD c):=fun d hd=>by
 have:d= .int (c.1:Int)∨d= .int (c.2:Int):=by simpa[cD] using hd
 rcases this with rfl | rfl<;>trivial
theorem Dm{R W:Nat}{c:Cell}(h:On R W c):Fc R W (cD c)=true:=by
 show ((decide ((0:Int)≤(c.1:Int))&&decide ((c.1:Int)<(R:Int)))&&(decide ((0:Int)≤(c.2:Int))&&decide ((c.2:Int)<(W:Int))))=true
 obtain⟨h1,h2⟩:=h
 simp
 omega
theorem Brd.nc{bd:List Str}{W:Nat}(hg:Brd bd W){c:Cell}(h:On bd.length W c):eZ [brd bd,cD c]=M.ret .non:=by
 refine j3 (ρ:=[fz (brd bd),fz (cD c)]) (cI (AD (rG (b:=true) ?_)) rfl)
 refine(ak (ds:=[brd bd,cD c]) rfl rfl).trans ?_
 rw[ur hg As,Dm h]
def Ways(w:Nat):Prop:=w=4∨w=8
theorem Ways.nw{w:Nat}(h:Ways w):bZ [.int (w:Int)]=M.ret .non:=by
 rcases h with rfl | rfl<;>rfl
def ch(x:Str)(j:Nat):Nat:=x.cps.toList.getD j 0
def at2(bd:List Str)(i j:Nat):Nat:=ch (bd.getD i ⟨#[]⟩) j
abbrev lt(bd:List Str)(c:Cell):Nat:=at2 bd c.1 c.2
def sg(n:Nat):D:= .str ⟨#[n]⟩
theorem ET{x:Str}{c:Nat}(h:c<x.length):rP (.str x) (.int (c:Int))=M.ret (sg (ch x c)):=by
 have h':c<x.cps.toList.length:=by rw[Array.length_toList];exact h
 show (match L2.atI x.cps.toList (c:Int) with | some c=>M.ret (D.str ⟨#[c]⟩) | none=>M.stuck)=_
 rw[eJ (List.getElem?_eq_getElem h')]
 unfold sg ch
 rw[List.getD_eq_getElem?_getD,List.getElem?_eq_getElem h']
 rfl
theorem getD_mem{bd:List Str}{i:Nat}(h:i<bd.length):bd.getD i ⟨#[]⟩∈bd:=by
 rw[List.getD_eq_getElem?_getD,List.getElem?_eq_getElem h]
 exact List.getElem_mem h
theorem GQ{bd:List Str}{i:Nat}(h:i<bd.length):bu (brd bd) (.int (i:Int))=M.ret (.str (bd.getD i ⟨#[]⟩)):=by
 show (match L2.atI (bd.map D.str) (i:Int) with | some d=>M.ret d | none=>M.stuck)=_
 rw[eJ (x:= .str (bd.getD i ⟨#[]⟩)) ?_]
 rw[List.getElem?_map,List.getElem?_eq_getElem h,List.getD_eq_getElem?_getD,List.getElem?_eq_getElem h]
 rfl
theorem c6{bd:List Str}{W:Nat}(hg:Brd bd W){c:Cell}(h:On bd.length W c):aT [brd bd,cD c]=M.ret (sg (lt bd c)):=by
 refine a_ (aE ?_)
 refine(aL (x:= .str (bd.getD c.1 ⟨#[]⟩)) (y:= .int (c.2:Int)) ((aL (x:=brd bd) (y:= .int (c.1:Int)) rfl rfl).trans (GQ h.1)) rfl).trans ?_
 exact ET (by rw[(hg.rows _ (getD_mem h.1)).len];exact h.2)
theorem Fh(a b:Nat):kx (sg a) (sg b)=M.ret (.bl (decide (a=b))):=by
 show M.ret (D.bl (decide ((⟨#[a]⟩:Str)=⟨#[b]⟩)))=_
 congr 2
 by_cases h:a=b
 ·subst h;simp
 ·have:¬((⟨#[a]⟩:Str)=⟨#[b]⟩):=fun z=>by
   injection z with z
   exact h (by simpa using z)
  rw[decide_eq_false h,decide_eq_false this]
def dw(a b:Nat):Nat:=max a b - min a b
def gG(w:Nat)(a b:Cell):Bool:=if w=4 then decide (dw a.1 b.1+dw a.2 b.2=1) else decide (max (dw a.1 b.1) (dw a.2 b.2)=1)
theorem rk(a b:Nat):Ai [.int ((a:Int) - (b:Int))]=M.ret (.int (dw a b:Int)):=by
 show M.ret (D.int _)=_
 congr 2
 unfold dw
 omega
theorem rn{w:Nat}(hw:Ways w)(a b:Cell):b7 [cD a,cD b, .int (w:Int)]=M.ret (.bl (gG w a b)):=by
 refine a_ ?_
 refine aj (ρ':=[fz (cD a),fz (cD b),fz (.int (w:Int)),fz (.int (dw a.1 b.1:Int)),none]) ((aM (d:= .int (dw a.1 b.1:Int)) (rk a.1 b.1)).trans rfl) ?_
 refine aj (ρ':=[fz (cD a),fz (cD b),fz (.int (w:Int)),fz (.int (dw a.1 b.1:Int)),fz (.int (dw a.2 b.2:Int))]) ((aM (d:= .int (dw a.2 b.2:Int)) (rk a.2 b.2)).trans rfl) ?_
 rcases hw with rfl | rfl
 ·refine dg (ez (ek rfl) (aE ?_))
  show M.ret (D.bl (((dw a.1 b.1:Int)+(dw a.2 b.2:Int))==1))=_
  unfold gG
  rw[if_pos rfl]
  congr 2
  have:((dw a.1 b.1:Int)+(dw a.2 b.2:Int))=((dw a.1 b.1+dw a.2 b.2:Nat):Int):=by omega
  rw[this]
  have e:=jL (dw a.1 b.1+dw a.2 b.2) 1
  exact e.trans rfl
 ·refine aj (cI (ek rfl) rfl) (aE ?_)
  show M.ret (D.bl ((if (dw a.1 b.1:Int)<(dw a.2 b.2:Int) then(dw a.2 b.2:Int) else(dw a.1 b.1:Int))==1))=_
  have hn:gG 8 a b=decide (max (dw a.1 b.1) (dw a.2 b.2)=1):=rfl
  rw[hn]
  congr 2
  have:(if (dw a.1 b.1:Int)<(dw a.2 b.2:Int) then(dw a.2 b.2:Int) else(dw a.1 b.1:Int))=((max (dw a.1 b.1) (dw a.2 b.2):Nat):Int):=by split<;>omega
  rw[this]
  have e:=jL (max (dw a.1 b.1) (dw a.2 b.2)) 1
  exact e.trans rfl
theorem nW(w:Nat)(a b:Cell):gG w a b=gG w b a:=by
 have e:∀x y:Nat,dw x y=dw y x:=fun x y=>by unfold dw;omega
 unfold gG
 rw[e a.1,e a.2]
theorem cP{put:D→aX→Option aX}{body:DS}{d:D}{ds:List D}{ρ ρ1 ρ2:aX}(h1:put d ρ=some ρ1)(h2:body ρ1=M.ret (.nx ρ2)):forL put body (d::ds) ρ=forL put body ds ρ2:=by
 show (match put d ρ with | none=>M.stuck | some ρ1=>body ρ1>>=fun o=>match o with | .nx ρ2=>forL put body ds ρ2 | .rt v=>M.ret (.rt v))=_
 rw[h1]
 show (body ρ1>>=fun o=>match o with | .nx ρ2=>forL put body ds ρ2 | .rt v=>M.ret (.rt v))=_
 rw[h2]
 rfl
section
variable{α σ:Type}{put:D→aX→Option aX}{body:DS}
theorem kr(enc:α→D)(mk:σ→aX)(step:σ→α→σ)(I:σ→Prop):∀(xs:List α) (s:σ),I s→(∀s,I s→∀x∈xs,I (step s x)∧∃ρ1,put (enc x) (mk s)=some ρ1∧body ρ1=M.ret (.nx (mk (step s x))))→
 I (xs.foldl step s)∧forL put body (xs.map enc) (mk s)=M.ret (.nx (mk (xs.foldl step s)))
 |[],s,h,_=>⟨h,rfl⟩
 |x::xs,s,h,st=>by
  obtain⟨h2,ρ1,e1,e2⟩:=st s h x (List.mem_cons_self ..)
  obtain⟨h3,e3⟩:=kr enc mk step I xs (step s x) h2 fun s hs y hy=>st s hs y (List.mem_cons_of_mem _ hy)
  exact⟨h3,(cP e1 e2).trans e3⟩
theorem ku(enc:α→D)(ρ:aX):∀(xs:List α),(∀x∈xs,∃ρ1,put (enc x) ρ=some ρ1∧body ρ1=M.ret (.nx ρ))→forL put body (xs.map enc) ρ=M.ret (.nx ρ)
 |[],_=>rfl
 |x::xs,st=>by
  obtain⟨ρ1,e1,e2⟩:=st x (List.mem_cons_self ..)
  exact(cP e1 e2).trans (ku enc ρ xs fun y hy=>st y (List.mem_cons_of_mem _ hy))
theorem jq(enc:α→D)(mk:List D→aX)(g:α→List D){B:Nat}:∀(xs:List α) (acc:List D),(acc++xs.flatMap g).length≤B→(∀x∈xs,∀acc,(acc++g x).length≤B→∃ρ1,put (enc x) (mk acc)=some ρ1∧body ρ1=M.ret (.nx (mk (acc++g x))))→
 forL put body (xs.map enc) (mk acc)=M.ret (.nx (mk (acc++xs.flatMap g)))
 |[],acc,_,_=>by simp;rfl
 |x::xs,acc,hB,st=>by
  have M5:((acc++g x)++xs.flatMap g).length≤B:=by simpa[List.flatMap_cons,List.append_assoc] using hB
  obtain⟨ρ1,e1,e2⟩:=st x (List.mem_cons_self ..) acc (Nat.le_trans (by simp only[List.length_append];omega) M5)
  have e3:=jq enc mk g xs (acc++g x) M5 fun y hy=>st y (List.mem_cons_of_mem _ hy)
  rw[List.map_cons,cP e1 e2,e3,List.flatMap_cons,List.append_assoc]
end
theorem fV{put:D→aX→Option aX}{δi:DA}{b:DS}{ρ:aX}{ds:List D}{m:M Out}(h:δi ρ=M.ret ds)(h2:forL put b ds ρ=m):dZ put δi b ρ=m:=by
 unfold dZ
 rw[h]
 exact h2
theorem fe{τ:DS}{ρ:aX}{o:Out}(h:τ ρ=M.ret o):(fun ρ=>noex (τ ρ)) ρ=M.ret o:=by
 show noex (τ ρ)=_
 rw[h]
 rfl
theorem vb(lo n:Nat):fU (lo:Int) n=(List.range' lo n).map fun(k:Nat)=>D.int (k:Int):=by
 unfold fU
 rw[List.range_eq_range']
 have:∀(n a:Nat),(List.range' a n).map (fun (i:Nat)=>D.int ((lo:Int)+(i:Int)))=(List.range' (lo+a) n).map fun(k:Nat)=>D.int (k:Int):=by
  intro n
  induction n with
  |zero=>intro a;rfl
  |succ n ih=>
   intro a
   rw[List.range'_succ,List.range'_succ,List.map_cons,List.map_cons,ih (a+1)]
   rfl
 exact this n 0
theorem J7{δ:DE}{ρ:aX}{n:Nat}(h:δ ρ=M.ret (.int (n:Int)))(hn:n≤4096):(aC δ aN ρ>>=j2)=M.ret ((List.range n).map fun(k:Nat)=>D.int (k:Int)):=by
 rw[aJ h rfl,aq,k0 hn,show fU 0 n=fU ((0:Nat):Int) n from rfl,vb,List.range_eq_range']
theorem HA{δ ε:DE}{ρ:aX}{i j:Nat}(h:δ ρ=M.ret (.int (i:Int)))(h2:ε ρ=M.ret (.int (j:Int)))(hi:i≤4096)(hj:j≤4096):(aC δ (aC ε aN) ρ>>=oH)=M.ret ((List.range' i (j - i)).map fun(k:Nat)=>D.int (k:Int)):=by
 rw[aJ h (aJ h2 rfl),aq]
 show (if (-4096≤(i:Int)∧(i:Int)≤4096)∧(-4096≤(j:Int)∧(j:Int)≤4096) then M.ret (fU (i:Int) ((j:Int) - (i:Int)).toNat) else M.stuck)=_
 rw[if_pos ⟨⟨by omega,by omega⟩,by omega,by omega⟩,show ((j:Int) - (i:Int)).toNat=j - i by omega,vb]
def dj(W r:Nat):List Cell:=(List.range W).map fun k=>(r,k)
def ay(R W:Nat):List Cell:=(List.range R).flatMap (dj W)
theorem aH{R W:Nat}{c:Cell}:c∈ay R W↔On R W c:=by
 unfold ay dj On
 simp only[List.mem_flatMap,List.mem_range,List.mem_map]
 constructor
 ·rintro⟨r,hr,k,hk,rfl⟩;exact⟨hr,hk⟩
 ·rintro⟨h1,h2⟩;exact⟨c.1,h1,c.2,h2,rfl⟩
theorem cF(R W:Nat):(ay R W).length=R*W:=by
 unfold ay
 have:∀l:List Nat,(l.flatMap (dj W)).length=l.length*W:=by
  intro l
  induction l with
  |nil=>simp
  |cons a l ih=>rw[List.flatMap_cons,List.length_append,ih,List.length_cons,Nat.succ_mul];simp[dj];omega
 rw[this,List.length_range]
theorem dQ{bd:List Str}{W:Nat}(hg:Brd bd W)(r:Nat):aO [brd bd, .int (r:Int)]=M.ret (.lst ((dj W r).map cD)):=by
 have:=hg.w8
 refine a_ (aE (dh (J7 (n:=W) (hg.len0 rfl) (by omega)) ?_ (by simp[dj,eA];omega)))
 rw[show (dj W r).map cD=((List.range W).map fun(k:Nat)=>D.int (k:Int)).map (fun e=> .tup [.int (r:Int),e]) by simp[dj,List.map_map];intro a _;rfl]
 exact fG (g:=fun e=> .tup [.int (r:Int),e]) _ fun e _=>rfl
theorem pb{bd:List Str}{W:Nat}(hg:Brd bd W):eY [brd bd]=M.ret (.lst ((ay bd.length W).map cD)):=by
 have h8:=hg.r8
 have w8:=hg.w8
 have hm:bd.length*W≤64:=Nat.mul_le_mul h8 w8
 have KA:(List.range bd.length).flatMap (fun r=>(dj W r).map cD)=(ay bd.length W).map cD:=by
  unfold ay;rw[List.map_flatMap]
 have e:=jq (put:=putN 2) (body:=cH [2] (Cv 1 (ah 2 aO (aC (dV 0) (aC (dV 2) aN))))) (fun (k:Nat)=>D.int (k:Int)) (fun acc=>[fz (brd bd),some (.ow (.lst acc)),none]) (fun r=>(dj W r).map cD) (B:=64) (List.range bd.length) []
  (by rw[List.nil_append,KA,List.length_map,cF];exact hm) fun r hr acc hB=>by
   refine⟨[fz (brd bd),some (.ow (.lst acc)),fz (.int (r:Int))],rfl,?_⟩
   refine(bB (ρ':=[fz (brd bd),some (.ow (.lst (acc++(dj W r).map cD))),fz (.int (r:Int))]) ?_).trans rfl
   show (aO [brd bd, .int (r:Int)]>>=fun d=>lstM d>>=fun es=>if acc.length+es.length≤lim then M.ret (Out.nx (List.set [fz (brd bd),some (.ow (.lst acc)),fz (.int (r:Int))] 1 (some (.ow (.lst (acc++es)))))) else M.stuck)=_
   rw[dQ hg,aq]
   show (if acc.length+((dj W r).map cD).length≤lim then M.ret (Out.nx [fz (brd bd),some (.ow (.lst (acc++(dj W r).map cD))),fz (.int (r:Int))]) else M.stuck)=_
   rw[if_pos (by rw[List.length_append] at hB;rw[eA];omega)]
 rw[List.nil_append,KA] at e
 refine a_ (aj (ρ':=[fz (brd bd),some (.ow (.lst [])),none]) rfl (aj (ρ':=[fz (brd bd),some (.ow (.lst ((ay bd.length W).map cD))),none]) (fe (fV (J7 (n:=bd.length) (rY rfl) (by omega)) e)) ?_))
 rfl
def gR(R W w:Nat)(c:Cell):List Cell:=
 (List.range' (c.1 - 1) (min (c.1+2) R - (c.1 - 1))).flatMap fun r=>((List.range' (c.2 - 1) (min (c.2+2) W - (c.2 - 1))).map fun k=>(r,k)).filter (gG w c)
theorem qu{R W w:Nat}(hw:Ways w){c x:Cell}:x∈gR R W w c↔On R W x∧gG w c x=true:=by
 unfold gR On
 simp only[List.mem_flatMap,List.mem_filter,List.mem_map,List.mem_range'_1]
 constructor
 ·rintro⟨r,⟨h1,h2⟩,⟨k,⟨h3,h4⟩,rfl⟩,h5⟩
  refine⟨⟨?_,?_⟩,h5⟩
  ·show r<R;omega
  ·show k<W;omega
 ·rintro⟨⟨h1,h2⟩,h5⟩
  have h6:dw c.1 x.1≤1∧dw c.2 x.2≤1:=by
   unfold gG at h5
   rcases hw with rfl | rfl
   ·rw[if_pos rfl] at h5;have:=of_decide_eq_true h5;omega
   ·rw[if_neg (by decide)] at h5;have:=of_decide_eq_true h5;omega
  unfold dw at h6
  exact⟨x.1,⟨by omega,by omega⟩,⟨x.2,⟨by omega,by omega⟩,rfl⟩,h5⟩
theorem qq(R W w:Nat)(c:Cell):(gR R W w c).length≤9:=by
 unfold gR
 rw[List.length_flatMap]
 have h:∀r,(((List.range' (c.2 - 1) (min (c.2+2) W - (c.2 - 1))).map fun k=>(r,k)).filter (gG w c)).length≤3:=fun r=>by
  refine Nat.le_trans (List.length_filter_le ..) ?_
  rw[List.length_map,List.length_range']
  omega
 have:∀(l:List Nat),(l.map fun r=>(((List.range' (c.2 - 1) (min (c.2+2) W - (c.2 - 1))).map fun k=>(r,k)).filter (gG w c)).length).sum≤3*l.length:=by
  intro l
  induction l with
  |nil=>simp
  |cons a l ih=>rw[List.map_cons,List.sum_cons,List.length_cons];have:=h a;omega
 refine Nat.le_trans (this _) ?_
 rw[List.length_range']
 omega
abbrev nc(b c w:D)(acc:List D)(x4 x5:Option Sl):aX:=[fz b,fz c,fz w,some (.ow (.lst acc)),x4,x5]
theorem nU{bd:List Str}{W w:Nat}(hg:Brd bd W)(hw:Ways w){c:Cell}(hc:On bd.length W c):cO [brd bd,cD c, .int (w:Int)]=M.ret (.lst ((gR bd.length W w c).map cD)):=by
 have h8:=hg.r8
 have w8:=hg.w8
 obtain⟨c1,c2⟩:=hc
 have Je:∀n:Nat,wt [.int ((n:Int) - 1), .int 0]=M.ret (.int ((n - 1:Nat):Int)):=fun n=>by
  show M.ret (D.int (if (0:Int)>(n:Int) - 1 then 0 else(n:Int) - 1))=_
  congr 2
  split<;>omega
 have Jf:∀n m:Nat,zt [.int ((n:Int)+2), .int (m:Int)]=M.ret (.int ((min (n+2) m:Nat):Int)):=fun n m=>by
  show M.ret (D.int (if (m:Int)<(n:Int)+2 then(m:Int) else(n:Int)+2))=_
  congr 2
  split<;>omega
 have inner:∀(r:Nat) (acc:List D),acc.length≤16→forL (putN 5) (cH [5] (gq (bW (ah 3 b7 (aC (dV 1) (aC (dA dP (aC (dV 4) (aC (dV 5) aN))) (aC (dV 2) aN))))) (pK 3 (dA dP (aC (dV 4) (aC (dV 5) aN)))) cJ))
  ((List.range' (c.2 - 1) (min (c.2+2) W - (c.2 - 1))).map fun(k:Nat)=>D.int (k:Int)) (nc (brd bd) (cD c) (.int (w:Int)) acc (fz (.int (r:Int))) none)=
  M.ret (.nx (nc (brd bd) (cD c) (.int (w:Int)) (acc++(List.range' (c.2 - 1) (min (c.2+2) W - (c.2 - 1))).flatMap fun k=>if gG w c (r,k) then [cD (r,k)] else []) (fz (.int (r:Int))) none)):=fun r acc pz=>by
  refine jq (fun (k:Nat)=>D.int (k:Int)) (fun acc=>nc (brd bd) (cD c) (.int (w:Int)) acc (fz (.int (r:Int))) none) (fun k=>if gG w c (r,k) then [cD (r,k)] else []) (B:=64) _ acc ?_ fun k hk acc hB=>?_
  ·rw[List.length_append,List.length_flatMap]
   have:∀l:List Nat,(l.map fun k=>(if gG w c (r,k) then [cD (r,k)] else []).length).sum≤l.length:=by
    intro l
    induction l with
    |nil=>simp
    |cons a l ih=>rw[List.map_cons,List.sum_cons,List.length_cons];split<;>simp<;>omega
   have h2:=this (List.range' (c.2 - 1) (min (c.2+2) W - (c.2 - 1)))
   rw[List.length_range'] at h2
   omega
  ·refine⟨nc (brd bd) (cD c) (.int (w:Int)) acc (fz (.int (r:Int))) (fz (.int (k:Int))),rfl,?_⟩
   have ht:bW (ah 3 b7 (aC (dV 1) (aC (dA dP (aC (dV 4) (aC (dV 5) aN))) (aC (dV 2) aN)))) (nc (brd bd) (cD c) (.int (w:Int)) acc (fz (.int (r:Int))) (fz (.int (k:Int))))=M.ret (gG w c (r,k)):=
    rG ((ak (ds:=[cD c,cD (r,k), .int (w:Int)]) rfl rfl).trans (rn hw c (r,k)))
   cases hn:gG w c (r,k) with
   |true=>
    rw[hn] at ht
    rw[hn,if_pos rfl,List.length_append] at hB
    refine(bB (ρ':=nc (brd bd) (cD c) (.int (w:Int)) (acc++[cD (r,k)]) (fz (.int (r:Int))) (fz (.int (k:Int)))) (ez ht ?_)).trans rfl
    show (if acc.length<lim then M.ret (Out.nx (nc (brd bd) (cD c) (.int (w:Int)) (acc++[cD (r,k)]) (fz (.int (r:Int))) (fz (.int (k:Int))))) else M.stuck)=_
    rw[if_pos (by rw[eA];simp at hB;omega)]
   |false=>
    rw[hn] at ht
    refine(bB (ρ':=nc (brd bd) (cD c) (.int (w:Int)) acc (fz (.int (r:Int))) (fz (.int (k:Int)))) (cI ht rfl)).trans ?_
    simp
    rfl
 have flt:∀r,((List.range' (c.2 - 1) (min (c.2+2) W - (c.2 - 1))).flatMap fun k=>if gG w c (r,k) then [cD (r,k)] else [])=(((List.range' (c.2 - 1) (min (c.2+2) W - (c.2 - 1))).map fun k=>(r,k)).filter (gG w c)).map cD:=fun r=>by
  generalize List.range' (c.2 - 1) (min (c.2+2) W - (c.2 - 1))=l
  induction l with
  |nil=>rfl
  |cons a l ih=>
   rw[List.flatMap_cons,ih,List.map_cons,List.filter_cons]
   cases gG w c (r,a)<;>rfl
 have tot:(List.range' (c.1 - 1) (min (c.1+2) bd.length - (c.1 - 1))).flatMap (fun r=>(((List.range' (c.2 - 1) (min (c.2+2) W - (c.2 - 1))).map fun k=>(r,k)).filter (gG w c)).map cD)=(gR bd.length W w c).map cD:=by
  unfold gR;rw[List.map_flatMap]
 have outer:=jq (put:=putN 4) (body:=cH [4,5] (dZ (putN 5) (fun ρ=>(aC (dA wt (aC (d2 kz (d2 bu (dV 1) (dC (.int 1))) (dC (.int 1))) (aC (dC (.int 0)) aN))) (aC (dA zt (aC (d2 dr (d2 bu (dV 1) (dC (.int 1))) (dC (.int 2))) (aC (dA aU (aC (d2 bu (dV 0) (dC (.int 0))) aN)) aN))) aN)) ρ>>=oH) (cH [5] (gq (bW (ah 3 b7 (aC (dV 1) (aC (dA dP (aC (dV 4) (aC (dV 5) aN))) (aC (dV 2) aN))))) (pK 3 (dA dP (aC (dV 4) (aC (dV 5) aN)))) cJ))))
  (fun (k:Nat)=>D.int (k:Int)) (fun acc=>nc (brd bd) (cD c) (.int (w:Int)) acc none none) (fun r=>(((List.range' (c.2 - 1) (min (c.2+2) W - (c.2 - 1))).map fun k=>(r,k)).filter (gG w c)).map cD) (B:=16) (List.range' (c.1 - 1) (min (c.1+2) bd.length - (c.1 - 1))) []
  (by rw[List.nil_append,tot,List.length_map];have:=qq bd.length W w c;omega) fun r hr acc hB=>by
   refine⟨nc (brd bd) (cD c) (.int (w:Int)) acc (fz (.int (r:Int))) none,rfl,?_⟩
   have e:=inner r acc (by rw[List.length_append] at hB;omega)
   rw[flt r] at e
   refine(bB (fV (HA (i:=c.2 - 1) (j:=min (c.2+2) W) ?_ ?_ (by omega) (by omega)) e)).trans rfl
   ·exact(cu (xs:=[.int ((c.2:Int) - 1), .int 0]) rfl).trans (Je c.2)
   ·refine(cu (xs:=[.int ((c.2:Int)+2), .int (W:Int)]) ?_).trans (Jf c.2 W)
    exact aJ (show d2 dr (d2 bu (dV 1) (dC (.int 1))) (dC (.int 2)) (nc (brd bd) (cD c) (.int (w:Int)) acc (fz (.int (r:Int))) none)=M.ret (.int ((c.2:Int)+2)) from rfl) (aJ (hg.len0 rfl) rfl)
 rw[List.nil_append,tot] at outer
 refine a_ (aj (ρ':=nc (brd bd) (cD c) (.int (w:Int)) [] none none) rfl (aj (ρ':=nc (brd bd) (cD c) (.int (w:Int)) ((gR bd.length W w c).map cD) none none) (fe (fV (HA (i:=c.1 - 1) (j:=min (c.1+2) bd.length) ?_ ?_ (by omega) (by omega)) outer)) ?_))
 ·exact(cu (xs:=[.int ((c.1:Int) - 1), .int 0]) rfl).trans (Je c.1)
 ·refine(cu (xs:=[.int ((c.1:Int)+2), .int (bd.length:Int)]) ?_).trans (Jf c.1 bd.length)
  exact aJ (show d2 dr (d2 bu (dV 1) (dC (.int 0))) (dC (.int 2)) (nc (brd bd) (cD c) (.int (w:Int)) [] none none)=M.ret (.int ((c.1:Int)+2)) from rfl) (aJ (rY rfl) rfl)
 ·rfl
def a8(bd:List Str)(W w:Nat)(c:Cell):List Cell:=(gR bd.length W w c).filter fun x=>decide (lt bd x=lt bd c)
theorem bU{bd:List Str}{W w:Nat}(hw:Ways w){c x:Cell}:x∈a8 bd W w c↔On bd.length W x∧gG w c x=true∧lt bd x=lt bd c:=by
 unfold a8
 rw[List.mem_filter,qu hw,decide_eq_true_eq,and_assoc]
theorem zm(bd:List Str)(W w:Nat)(c:Cell):(a8 bd W w c).length≤9:=Nat.le_trans (List.length_filter_le ..) (qq ..)
theorem pZ{α:Type}{f:D→M (Option D)}(enc:α→D)(p:α→Bool):∀(xs:List α),(∀x∈xs,f (enc x)=M.ret (if p x then some (enc x) else none))→cZ f (xs.map enc)=M.ret ((xs.filter p).map enc)
 |[],_=>rfl
 |x::xs,h=>by
  rw[List.map_cons,dR,h x (List.mem_cons_self ..),aq,pZ enc p xs fun y hy=>h y (List.mem_cons_of_mem _ hy),List.filter_cons]
  cases p x<;>rfl
theorem nJ{bd:List Str}{W w:Nat}(hg:Brd bd W)(hw:Ways w){c:Cell}(hc:On bd.length W c):b8 [brd bd,cD c, .int (w:Int)]=M.ret (.lst ((a8 bd W w c).map cD)):=by
 refine a_ (aj (ρ':=[fz (brd bd),fz (cD c),fz (.int (w:Int)),fz (sg (lt bd c))]) ((aM (d:=sg (lt bd c)) ((ak (ds:=[brd bd,cD c]) rfl rfl).trans (c6 hg hc))).trans rfl) (aE ?_))
 refine dh (ds:=(gR bd.length W w c).map cD) ?_ (pZ cD _ _ fun x hx=>?_) (by rw[List.length_map,eA];exact Nat.le_trans (zm bd W w c) (by decide))
 ·show (ah 3 cO _ _>>=lstM)=_
  have e:ah 3 cO (aC (dV 0) (aC (dV 1) (aC (dV 2) aN))) [fz (brd bd),fz (cD c),fz (.int (w:Int)),fz (sg (lt bd c))]=M.ret (.lst ((gR bd.length W w c).map cD)):=nU hg hw hc
  rw[e]
  rfl
 ·have Pb:=(qu hw).mp hx
  rw[FX]
  have e:cY (d2 kx (ah 2 aT (aC (dV 1) (aC (dV 0) aN))) (dV 4)) (fz (cD x)::[fz (brd bd),fz (cD c),fz (.int (w:Int)),fz (sg (lt bd c))])=M.ret (decide (lt bd x=lt bd c)):=by
   refine ek ?_
   exact(aL (x:=sg (lt bd x)) (y:=sg (lt bd c)) ((ak (ds:=[brd bd,cD x]) rfl rfl).trans (c6 hg Pb.1)) rfl).trans (Fh _ _)
  rw[e,aq]
  cases decide (lt bd x=lt bd c)<;>rfl
end K1
namespace K1
section
variable{α:Type}[DecidableEq α]
structure Bk (α:Type) where
 ks:List α
 ps:List (Option α)
 fu:List α
def d8(c:α)(s:Bk α)(x:α):Bk α:=if x∈s.ks then s else⟨s.ks++[x],s.ps++[some c],s.fu++[x]⟩
variable(nb:α→List α)
def lu(s:Bk α)(c:α):Bk α:=(nb c).foldl (d8 c) s
def cw(s:Bk α)(ring:List α):Bk α:=ring.foldl (lu nb) s
def Rb(a:α):Nat→α→Prop
 |0,x=>x=a
 |k+1,x=>Rb a k x∨∃y,Rb a k y∧x∈nb y
variable{nb}{a:α}
theorem Rb.mono{i j:Nat}{x:α}(h:i≤j)(r:Rb nb a i x):Rb nb a j x:=by
 induction h with
 |refl=>exact r
 |step _ ih=>exact .inl ih
structure Grown (P:α→α→Prop) (s t:Bk α):Prop where
 ex:∃fs:List (α×α),t.ks=s.ks++fs.map (·.1)∧t.ps=s.ps++fs.map (fun p=>some p.2)∧t.fu=s.fu++fs.map (·.1)∧(∀p∈fs,P p.2 p.1)
 nd:s.ks.Nodup→t.ks.Nodup
theorem Grown.refl{P:α→α→Prop}(s:Bk α):Grown P s s:=⟨⟨[],by simp,by simp,by simp,fun _ h=>by cases h⟩,id⟩
theorem Grown.trans{P:α→α→Prop}{s t u:Bk α}(h1:Grown P s t)(h2:Grown P t u):Grown P s u:=by
 obtain⟨fs,a1,a2,a3,a4⟩:=h1.ex
 obtain⟨gs,b1,b2,b3,b4⟩:=h2.ex
 refine⟨⟨fs++gs,by rw[b1,a1];simp,by rw[b2,a2];simp,by rw[b3,a3];simp,fun p hp=>?_⟩,fun h=>h2.nd (h1.nd h)⟩
 rcases List.mem_append.mp hp with h | h
 ·exact a4 p h
 ·exact b4 p h
theorem tQ{P:α→α→Prop}{c x:α}(s:Bk α)(h:P c x):Grown P s (d8 c s x):=by
 unfold d8
 split
 ·exact Grown.refl s
 ·rename_i hx
  refine⟨⟨[(x,c)],rfl,rfl,rfl,fun p hp=>?_⟩,fun hn=>?_⟩
  ·have:p=(x,c):=by simpa using hp
   subst this;exact h
  ·refine List.nodup_append.mpr ⟨hn,by simp,fun y hy z hz e=>?_⟩
   have hz:z=x:=by simpa using hz
   rw[e,hz] at hy
   exact hx hy
theorem yG{c x y:α}(s:Bk α):y∈(d8 c s x).ks↔y∈s.ks∨y=x:=by
 unfold d8
 split
 ·rename_i hx
  exact⟨.inl,fun h=>h.elim id fun e=>by rw[e];exact hx⟩
 ·simp
theorem foldStep{P:α→α→Prop}{c:α}:∀(l:List α) (s:Bk α),(∀x∈l,P c x)→Grown P s (l.foldl (d8 c) s)∧∀y,y∈(l.foldl (d8 c) s).ks↔y∈s.ks∨y∈l
 |[],s,_=>⟨Grown.refl s,fun y=>by simp⟩
 |x::l,s,h=>by
  obtain⟨h1,h2⟩:=foldStep l (d8 c s x) fun y hy=>h y (List.mem_cons_of_mem _ hy)
  refine⟨(tQ s (h x (List.mem_cons_self ..))).trans h1,fun y=>?_⟩
  rw[List.foldl_cons,h2 y,yG]
  simp[or_assoc]
theorem ud{P:α→α→Prop}:∀(l:List α) (s:Bk α),(∀c∈l,∀x∈nb c,P c x)→Grown P s (cw nb s l)∧∀y,y∈(cw nb s l).ks↔y∈s.ks∨∃c∈l,y∈nb c
 |[],s,_=>⟨Grown.refl s,fun y=>by simp[cw]⟩
 |c::l,s,h=>by
  obtain⟨g1,m1⟩:=foldStep (P:=P) (c:=c) (nb c) s (h c (List.mem_cons_self ..))
  obtain⟨g2,m2⟩:=ud l (lu nb s c) fun c' hc=>h c' (List.mem_cons_of_mem _ hc)
  refine⟨g1.trans g2,fun y=>?_⟩
  show y∈(cw nb (lu nb s c) l).ks↔_
  rw[m2 y]
  show (y∈((nb c).foldl (d8 c) s).ks∨_)↔_
  rw[m1 y]
  simp[or_assoc]
structure Rng (nb:α→List α) (a:α) (k:Nat) (ks:List α) (ps:List (Option α)) (ring:List α):Prop where
 len:ks.length=ps.length
 nd:ks.Nodup
 mem:∀x,x∈ks↔Rb nb a k x
 rg:∀x,x∈ring↔Rb nb a k x∧∀j,Rb nb a j x→k≤j
 par:∀x p,(x,some p)∈ks.zip ps→x∈nb p∧p∈ks∧∀j,Rb nb a j x→∃i,j=i+1∧Rb nb a i p
 non:∀x,(x,none)∈ks.zip ps→x=a
 sz:k≤ks.length∧(ring≠[]→k+1≤ks.length)
theorem Rng.zero(nb:α→List α)(a:α):Rng nb a 0 [a] [none] [a] where
 len:=rfl
 nd:=by simp
 mem:=fun x=>by simp[Rb]
 rg:=fun x=>by simp[Rb]
 par:=fun x p h=>by simp at h
 non:=fun x h=>by simpa using h
 sz:=⟨by simp,fun _=>by simp⟩
theorem Rng.next{k:Nat}{ks:List α}{ps:List (Option α)}{ring:List α}(h:Rng nb a k ks ps ring)(hr:ring≠[]):Rng nb a (k+1) (cw nb ⟨ks,ps,[]⟩ ring).ks (cw nb ⟨ks,ps,[]⟩ ring).ps (cw nb ⟨ks,ps,[]⟩ ring).fu:=by
 obtain⟨g,m⟩:=ud (nb:=nb) (P:=fun c x=>c∈ring∧x∈nb c) ring ⟨ks,ps,[]⟩ fun c hc x hx=>⟨hc,hx⟩
 obtain⟨fs,e1,e2,e3,e4⟩:=g.ex
 have Ac:=g.nd h.nd
 have hm:∀x,x∈(cw nb ⟨ks,ps,[]⟩ ring).ks↔Rb nb a (k+1) x:=fun x=>by
  rw[m x]
  show (x∈ks∨_)↔(Rb nb a k x∨_)
  constructor
  ·rintro(q | ⟨c,hc,hx⟩)
   ·exact .inl ((h.mem x).mp q)
   ·exact .inr ⟨c,((h.rg c).mp hc).1,hx⟩
  ·rintro(q | ⟨y,hy,hx⟩)
   ·exact .inl ((h.mem x).mpr q)
   ·by_cases hk:∀j,Rb nb a j y→k≤j
    ·exact .inr ⟨y,(h.rg y).mpr ⟨hy,hk⟩,hx⟩
    ·refine .inl ((h.mem x).mpr ?_)
     obtain⟨j,hj⟩:=Classical.not_forall.mp hk
     obtain⟨LH,OJ⟩:=Classical.not_imp.mp hj
     exact Rb.mono (i:=j+1) (by omega) (.inr ⟨y,LH,hx⟩)
 have z_:(cw nb ⟨ks,ps,[]⟩ ring).ks=ks++fs.map (·.1):=e1
 have HX:(cw nb ⟨ks,ps,[]⟩ ring).ps=ps++fs.map (fun p=>some p.2):=e2
 have Kp:(cw nb ⟨ks,ps,[]⟩ ring).fu=fs.map (·.1):=e3
 have new:∀x,x∈fs.map (·.1)→¬Rb nb a k x:=fun x hx hk=>by
  rw[z_] at Ac
  exact(List.nodup_append.mp Ac).2.2 x ((h.mem x).mpr hk) x hx rfl
 have Jy:∀x,¬Rb nb a k x→∀j,Rb nb a j x→k+1≤j:=fun x hx j hj=>by
  by_cases OK:k+1≤j
  ·exact OK
  ·exact absurd (Rb.mono (by omega) hj) hx
 have Jp:(cw nb ⟨ks,ps,[]⟩ ring).ks.zip (cw nb ⟨ks,ps,[]⟩ ring).ps=ks.zip ps++fs.map fun p=>(p.1,some p.2):=by
  rw[z_,HX,List.zip_append h.len]
  congr 1
  rw[List.zip_map']
 refine⟨?_,Ac,hm,fun x=>?_,fun x p hp=>?_,fun x hx=>?_,?_⟩
 ·rw[z_,HX,List.length_append,List.length_append,List.length_map,List.length_map,h.len]
 ·rw[Kp]
  constructor
  ·intro hx
   exact⟨(hm x).mp (by rw[z_];exact List.mem_append_right _ hx),Jy x (new x hx)⟩
  ·rintro⟨h1,h2⟩
   have h3:=(hm x).mpr h1
   rw[z_] at h3
   rcases List.mem_append.mp h3 with q | q
   ·have:=h2 k ((h.mem x).mp q)
    omega
   ·exact q
 ·rw[Jp] at hp
  rcases List.mem_append.mp hp with q | q
  ·obtain⟨q1,q2,q3⟩:=h.par x p q
   exact⟨q1,by rw[z_];exact List.mem_append_left _ q2,q3⟩
  ·obtain⟨f,hf,e⟩:=List.mem_map.mp q
   cases e
   obtain⟨f1,f2⟩:=e4 f hf
   have hc:=(h.rg f.2).mp f1
   refine⟨f2,by rw[z_];exact List.mem_append_left _ ((h.mem _).mpr hc.1),fun j hj=>?_⟩
   have:=Jy f.1 (new f.1 (List.mem_map.mpr ⟨f,hf,rfl⟩)) j hj
   exact⟨j - 1,by omega,Rb.mono (by omega) hc.1⟩
 ·rw[Jp] at hx
  rcases List.mem_append.mp hx with q | q
  ·exact h.non x q
  ·obtain⟨f,hf,e⟩:=List.mem_map.mp q
   cases e
 ·have hs:=h.sz.2 hr
  rw[z_,List.length_append,List.length_map]
  refine⟨by omega,fun gN=>?_⟩
  have:fs≠[]:=fun z=>gN (by rw[Kp,z];rfl)
  have:=List.length_pos_iff.mpr this
  omega
theorem Rng.last{k:Nat}{ks:List α}{ps:List (Option α)}(h:Rng nb a k ks ps []):∀x,x∈ks↔∃j,Rb nb a j x:=by
 have none:∀x,¬(Rb nb a k x∧∀j,Rb nb a j x→k≤j):=fun x q=>by
  have:=(h.rg x).mpr q
  cases this
 have hk:∀x,Rb nb a k x→∃i,i<k∧Rb nb a i x:=fun x hx=>by
  by_cases q:∀j,Rb nb a j x→k≤j
  ·exact absurd ⟨hx,q⟩ (none x)
  ·obtain⟨j,hj⟩:=Classical.not_forall.mp q
   obtain⟨LH,OJ⟩:=Classical.not_imp.mp hj
   exact⟨j,by omega,LH⟩
 have all:∀j x,Rb nb a j x→Rb nb a k x:=by
  intro j
  induction j with
  |zero=>intro x hx;exact Rb.mono (Nat.zero_le _) hx
  |succ j ih=>
   rintro x (q | ⟨y,hy,hx⟩)
   ·exact ih x q
   ·obtain⟨i,hi,hr⟩:=hk y (ih y hy)
    exact Rb.mono (i:=i+1) (by omega) (.inr ⟨y,hr,hx⟩)
 exact fun x=>⟨fun q=>⟨k,(h.mem x).mp q⟩,fun⟨j,hj⟩=>(h.mem x).mpr (all j x hj)⟩
theorem jM{l U:List α}(hn:l.Nodup)(h:∀x∈l,x∈U):l.length≤U.length:=by
 induction l generalizing U with
 |nil=>simp
 |cons a l ih=>
  rw[List.nodup_cons] at hn
  have hl:∀x∈l,x∈U.erase a:=fun x hx=>by
   have gN:x≠a:=fun z=>hn.1 (by rw[←z];exact hx)
   exact(List.mem_erase_of_ne gN).mpr (h x (List.mem_cons_of_mem _ hx))
  have h1:=ih hn.2 hl
  have h2:=List.length_erase_of_mem (h a (List.mem_cons_self ..))
  have h3:=List.length_pos_of_mem (h a (List.mem_cons_self ..))
  rw[List.length_cons]
  omega
end
end K1
namespace K1
open PySem L2 L3
def keyOf(c:Cell):List Key:=[.inl (c.1:Int), .inl (c.2:Int)]
theorem iy{a b:Cell}(h:keyOf a=keyOf b):a=b:=by
 unfold keyOf at h
 injection h with h1 h2
 injection h1 with h1
 injection h2 with h2 _
 injection h2 with h2
 exact Prod.ext (Int.ofNat.inj h1) (Int.ofNat.inj h2)
theorem jA(c:Cell):jz (cD c)=some (keyOf c):=rfl
theorem fX{c:Cell}:∀{ks:List Cell}{ds:List D},c∉ks→eV (ks.map keyOf) ds (keyOf c)=none
 |[],_,_=>by simp[eV]
 |k::ks,[],_=>by simp[eV]
 |k::ks,d::ds,h=>by
  rw[List.map_cons]
  unfold eV
  rw[if_neg (fun z=>h (by rw[iy z];exact List.mem_cons_self ..))]
  exact fX fun z=>h (List.mem_cons_of_mem _ z)
theorem lg{c:Cell}:∀{ks:List Cell}{ds:List D},ks.length=ds.length→c∈ks→∃d,eV (ks.map keyOf) ds (keyOf c)=some d∧(c,d)∈ks.zip ds
 |[],_,_,h=>by cases h
 |k::ks,[],hl,_=>by simp at hl
 |k::ks,d::ds,hl,h=>by
  rw[List.map_cons]
  unfold eV
  by_cases hk:k=c
  ·subst hk
   rw[if_pos rfl]
   exact⟨d,rfl,by simp⟩
  ·rw[if_neg (fun z=>hk (iy z))]
   have hc:c∈ks:=by
    rcases List.mem_cons.mp h with q | q
    ·exact absurd q.symm hk
    ·exact q
   obtain⟨d',e1,e2⟩:=lg (ds:=ds) (by simpa using hl) hc
   exact⟨d',e1,by simp[e2]⟩
theorem xU{neg:Bool}{ks:List Cell}{ds:List D}{c:Cell}(hl:ks.length=ds.length):pw neg (cD c) (.dct (ks.map keyOf) ds)=M.ret (.bl (if neg then !decide (c∈ks) else decide (c∈ks))):=by
 show (match (jz (cD c)).map (eV (ks.map keyOf) ds) with | some o=>M.ret (D.bl (if neg then !o.isSome else o.isSome)) | none=>M.stuck)=_
 rw[jA]
 show M.ret (D.bl (if neg then !(eV (ks.map keyOf) ds (keyOf c)).isSome else(eV (ks.map keyOf) ds (keyOf c)).isSome))=_
 by_cases h:c∈ks
 ·obtain⟨d,e,_⟩:=lg hl h
  rw[e,decide_eq_true h];rfl
 ·rw[fX h,decide_eq_false h];rfl
theorem u5{ks:List Cell}{ds:List D}{c:Cell}{d:D}(h:c∉ks)(hl:ds.length<lim):kS (.dct (ks.map keyOf) ds) (cD c) d=some (.dct ((ks++[c]).map keyOf) (ds++[d])):=by
 show (match jz (cD c) with | some kk=>if ds.length<lim then some (C.dct (cW (ks.map keyOf) ds kk) (b5 (ks.map keyOf) ds kk d)) else none | none=>none)=_
 rw[jA]
 show (if ds.length<lim then some (C.dct (cW (ks.map keyOf) ds (keyOf c)) (b5 (ks.map keyOf) ds (keyOf c) d)) else none)=_
 rw[if_pos hl]
 unfold cW b5
 rw[fX h]
 simp
theorem FN{τ:DT}{ρ:aX}{b:Bool}(h:τ (Fo ρ)=M.ret b):FL τ ρ=M.ret b:=by
 unfold FL
 rw[h]
 rfl
theorem C2{c:DT}{body:DS}{n:Nat}{ρ ρ':aX}{m:M Out}(h1:c ρ=M.ret true)(h2:body ρ=M.ret (.nx ρ'))(h3:er c body n ρ'=m):er c body (n+1) ρ=m:=by
 show (c ρ>>=fun b=>if b then body ρ>>=fun o=>match o with | .nx ρ'=>er c body n ρ' | .rt d=>M.ret (.rt d) else M.ret (.nx ρ))=_
 rw[h1,aq,if_pos rfl,h2]
 exact h3
theorem C1{c:DT}{body:DS}{n:Nat}{ρ:aX}(h1:c ρ=M.ret false):er c body (n+1) ρ=M.ret (.nx ρ):=by
 show (c ρ>>=fun b=>if b then body ρ>>=fun o=>match o with | .nx ρ'=>er c body n ρ' | .rt d=>M.ret (.rt d) else M.ret (.nx ρ))=_
 rw[h1]
 rfl
def BO:Option Cell→D
 |none=> .non
 |some c=>cD c
abbrev Ao(ks:List Cell)(ps:List (Option Cell)):C:= .dct (ks.map keyOf) (ps.map BO)
abbrev xB(ks:List Cell)(ps:List (Option Cell)):D:= .dct (ks.map keyOf) (ps.map BO)
abbrev sb(b s w:D)(ks:List Cell)(ps:List (Option Cell))(x4 x5 x6 x7:Option Sl):aX:=[fz b,fz s,fz w,some (.ow (Ao ks ps)),x4,x5,x6,x7]
structure Bok (R W:Nat) (s:Bk Cell):Prop where
 len:s.ks.length=s.ps.length
 nd:s.ks.Nodup
 on:∀x∈s.ks,On R W x
 fu:s.fu.length≤s.ks.length
theorem Bok.le{R W:Nat}{s:Bk Cell}(h:Bok R W s):s.ks.length≤R*W:=by
 rw[←cF R W]
 exact jM h.nd fun x hx=>aH.mpr (h.on x hx)
theorem Bok.step{R W:Nat}{s:Bk Cell}(h:Bok R W s){c x:Cell}(hx:On R W x):Bok R W (d8 c s x):=by
 unfold d8
 split
 ·exact h
 ·rename_i hn
  refine⟨by simp[h.len],?_,fun y hy=>?_,by simp;exact h.fu⟩
  ·refine List.nodup_append.mpr ⟨h.nd,by simp,fun y hy z hz e=>?_⟩
   have hz:z=x:=by simpa using hz
   rw[e,hz] at hy
   exact hn hy
  ·rcases List.mem_append.mp hy with q | q
   ·exact h.on y q
   ·have:y=x:=by simpa using q
    rw[this];exact hx
def HF:DS:=cH [7] (gq (FL (cY (d2 (pw true) (dV 7) (dV 3)))) (aB (gH 3 (dV 7) (dV 6)) (pK 5 (dV 7))) cJ)
theorem ES{bd:List Str}{W:Nat}(hg:Brd bd W){a c x:Cell}{w:D}{r:Option Sl}{s:Bk Cell}(h:Bok bd.length W s):
 HF (sb (brd bd) (cD a) w s.ks s.ps r (some (.ow (.lst (s.fu.map cD)))) (fz (cD c)) (fz (cD x)))=M.ret (.nx (sb (brd bd) (cD a) w (d8 c s x).ks (d8 c s x).ps r (some (.ow (.lst ((d8 c s x).fu.map cD)))) (fz (cD c)) none)):=by
 have hle:=h.le
 have hm:bd.length*W≤64:=Nat.mul_le_mul hg.r8 hg.w8
 have ht:FL (cY (d2 (pw true) (dV 7) (dV 3))) (sb (brd bd) (cD a) w s.ks s.ps r (some (.ow (.lst (s.fu.map cD)))) (fz (cD c)) (fz (cD x)))=M.ret (!decide (x∈s.ks)):=
  FN (ek ((aL (x:=cD x) (y:=xB s.ks s.ps) rfl rfl).trans (xU (neg:=true) (by rw[List.length_map];exact h.len))))
 by_cases hx:x∈s.ks
 ·rw[decide_eq_true hx] at ht
  have e:d8 c s x=s:=if_pos hx
  rw[e]
  exact(bB (cI ht rfl)).trans rfl
 ·rw[decide_eq_false hx] at ht
  have e:d8 c s x=⟨s.ks++[x],s.ps++[some c],s.fu++[x]⟩:=if_neg hx
  rw[e]
  refine(bB (ρ':=sb (brd bd) (cD a) w (s.ks++[x]) (s.ps++[some c]) r (some (.ow (.lst ((s.fu++[x]).map cD)))) (fz (cD c)) (fz (cD x))) (ez ht (aj (ρ':=sb (brd bd) (cD a) w (s.ks++[x]) (s.ps++[some c]) r (some (.ow (.lst (s.fu.map cD)))) (fz (cD c)) (fz (cD x))) ?_ ?_))).trans rfl
  ·show (match kS (Ao s.ks s.ps) (cD x) (cD c) with | some c'=>M.ret (Out.nx (List.set (sb (brd bd) (cD a) w s.ks s.ps r (some (.ow (.lst (s.fu.map cD)))) (fz (cD c)) (fz (cD x))) 3 (some (.ow c')))) | none=>M.stuck)=_
   rw[u5 hx (by rw[List.length_map,←h.len,eA];omega)]
   rw[show s.ps.map BO++[cD c]=(s.ps++[some c]).map BO by simp[BO]]
   rfl
  ·show (if (s.fu.map cD).length<lim then M.ret (Out.nx (sb (brd bd) (cD a) w (s.ks++[x]) (s.ps++[some c]) r (some (.ow (.lst (s.fu.map cD++[cD x])))) (fz (cD c)) (fz (cD x)))) else M.stuck)=_
   have:=h.fu
   rw[if_pos (by rw[List.length_map,eA];omega)]
   rw[show s.fu.map cD++[cD x]=(s.fu++[x]).map cD by simp]
def HE:DS:=cH [6,7] (dZ (putN 7) (eM (ah 3 b8 (aC (dV 0) (aC (dV 6) (aC (dV 2) aN))))) HF)
theorem yw{bd:List Str}{W w:Nat}(hg:Brd bd W)(hw:Ways w){a c:Cell}(hc:On bd.length W c){r:Option Sl}{s:Bk Cell}(h:Bok bd.length W s):
 Bok bd.length W (lu (a8 bd W w) s c)∧HE (sb (brd bd) (cD a) (.int (w:Int)) s.ks s.ps r (some (.ow (.lst (s.fu.map cD)))) (fz (cD c)) none)=
  M.ret (.nx (sb (brd bd) (cD a) (.int (w:Int)) (lu (a8 bd W w) s c).ks (lu (a8 bd W w) s c).ps r (some (.ow (.lst ((lu (a8 bd W w) s c).fu.map cD)))) none none)):=by
 obtain⟨h1,e⟩:=kr (put:=putN 7) (body:=HF) cD (fun s:Bk Cell=>sb (brd bd) (cD a) (.int (w:Int)) s.ks s.ps r (some (.ow (.lst (s.fu.map cD)))) (fz (cD c)) none) (d8 c) (Bok bd.length W) (a8 bd W w c) s h fun s hs x hx=>
  ⟨hs.step ((bU hw).mp hx).1,_,rfl,ES hg hs⟩
 refine⟨h1,(bB (fV ?_ e)).trans rfl⟩
 show (ah 3 b8 (aC (dV 0) (aC (dV 6) (aC (dV 2) aN))) (sb (brd bd) (cD a) (.int (w:Int)) s.ks s.ps r (some (.ow (.lst (s.fu.map cD)))) (fz (cD c)) none)>>=lstM)=_
 have e2:ah 3 b8 (aC (dV 0) (aC (dV 6) (aC (dV 2) aN))) (sb (brd bd) (cD a) (.int (w:Int)) s.ks s.ps r (some (.ow (.lst (s.fu.map cD)))) (fz (cD c)) none)=M.ret (.lst ((a8 bd W w c).map cD)):=nJ hg hw hc
 rw[e2]
 rfl
def Kb:DS:=cH [5,6,7] (aB (zP 5) (aB (dZ (putN 6) (eM (dV 4)) HE) (Cy 5 (bJ 4 (dV 5)))))
theorem ER{bd:List Str}{W w:Nat}(hg:Brd bd W)(hw:Ways w){a:Cell}{ring:List Cell}(hr:∀c∈ring,On bd.length W c){s:Bk Cell}(h:Bok bd.length W s)(hf:s.fu=[]):
 Bok bd.length W (cw (a8 bd W w) s ring)∧Kb (sb (brd bd) (cD a) (.int (w:Int)) s.ks s.ps (fz (.lst (ring.map cD))) none none none)=
  M.ret (.nx (sb (brd bd) (cD a) (.int (w:Int)) (cw (a8 bd W w) s ring).ks (cw (a8 bd W w) s ring).ps (fz (.lst ((cw (a8 bd W w) s ring).fu.map cD))) none none none)):=by
 obtain⟨h1,e⟩:=kr (put:=putN 6) (body:=HE) cD (fun s:Bk Cell=>sb (brd bd) (cD a) (.int (w:Int)) s.ks s.ps (fz (.lst (ring.map cD))) (some (.ow (.lst (s.fu.map cD)))) none none) (lu (a8 bd W w)) (Bok bd.length W) ring s h fun s hs c hc=>
  ⟨(yw (a:=a) (r:=fz (.lst (ring.map cD))) hg hw (hr c hc) hs).1,_,rfl,(yw hg hw (hr c hc) hs).2⟩
 refine⟨h1,(bB (ρ':=sb (brd bd) (cD a) (.int (w:Int)) (cw (a8 bd W w) s ring).ks (cw (a8 bd W w) s ring).ps (fz (.lst ((cw (a8 bd W w) s ring).fu.map cD))) (fz (.lst ((cw (a8 bd W w) s ring).fu.map cD))) none none) ?_).trans rfl⟩
 refine aj (ρ':=sb (brd bd) (cD a) (.int (w:Int)) s.ks s.ps (fz (.lst (ring.map cD))) (some (.ow (.lst []))) none none) rfl (aj (ρ':=sb (brd bd) (cD a) (.int (w:Int)) (cw (a8 bd W w) s ring).ks (cw (a8 bd W w) s ring).ps (fz (.lst (ring.map cD))) (some (.ow (.lst ((cw (a8 bd W w) s ring).fu.map cD)))) none none) ?_ rfl)
 rw[hf] at e
 exact fV rfl e
theorem ve{bd:List Str}{W w:Nat}(hg:Brd bd W)(hw:Ways w){a:Cell}(ha:On bd.length W a):∀(fuel k:Nat) (ks:List Cell) (ps:List (Option Cell)) (ring:List Cell),bd.length*W+2≤fuel+k→Rng (a8 bd W w) a k ks ps ring→(∀x∈ks,On bd.length W x)→
 ∃k' ks' KW,Rng (a8 bd W w) a k' ks' KW []∧(∀x∈ks',On bd.length W x)∧er (bW (dV 4)) Kb fuel (sb (brd bd) (cD a) (.int (w:Int)) ks ps (fz (.lst (ring.map cD))) none none none)=M.ret (.nx (sb (brd bd) (cD a) (.int (w:Int)) ks' KW (fz (.lst [])) none none none))
 |0,k,ks,ps,ring,hf,hR,mH=>by
  have h1:ks.length≤bd.length*W:=by
   rw[←cF bd.length W]
   exact jM hR.nd fun x hx=>aH.mpr (mH x hx)
  have:=hR.sz.1
  omega
 |fuel+1,k,ks,ps,[],hf,hR,mH=>⟨k,ks,ps,hR,mH,C1 rfl⟩
 |fuel+1,k,ks,ps,c::ring,hf,hR,mH=>by
  have gN:c::ring≠[]:=by simp
  have hN:=hR.next gN
  have LV:∀x∈c::ring,On bd.length W x:=fun x hx=>mH x ((hR.mem x).mpr ((hR.rg x).mp hx).1)
  obtain⟨hb,e⟩:=ER (a:=a) hg hw LV (s:=⟨ks,ps,[]⟩) ⟨hR.len,hR.nd,mH,Nat.zero_le _⟩ rfl
  obtain⟨k',ks',KW,q1,q2,q3⟩:=ve hg hw ha fuel (k+1) _ _ _ (by omega) hN hb.on
  exact⟨k',ks',KW,q1,q2,C2 rfl e q3⟩
theorem oT{bd:List Str}{W w:Nat}(hg:Brd bd W)(hw:Ways w){a:Cell}(ha:On bd.length W a):
 ∃k ks ps,Rng (a8 bd W w) a k ks ps []∧(∀x∈ks,On bd.length W x)∧b_ [brd bd,cD a, .int (w:Int)]=M.ret (xB ks ps):=by
 have hm:bd.length*W≤64:=Nat.mul_le_mul hg.r8 hg.w8
 obtain⟨k,ks,ps,h1,h2,h3⟩:=ve hg hw ha lim 0 [a] [none] [a] (by rw[eA];omega) (Rng.zero _ _) (fun x hx=>(show x=a by simpa using hx)▸ha)
 refine⟨k,ks,ps,h1,h2,a_ (aj (ρ':=[fz (brd bd),fz (cD a),fz (.int (w:Int)),some (.ow (Ao [a] [none])),none,none,none,none]) rfl (aj (ρ':=sb (brd bd) (cD a) (.int (w:Int)) [a] [none] (fz (.lst [cD a])) none none none) rfl (aj (ρ':=sb (brd bd) (cD a) (.int (w:Int)) ks ps (fz (.lst [])) none none none) (fe h3) rfl)))⟩
def iP{α:Type}[DecidableEq α](n:Nat)(enc:α→D):Prop:=∀k x y,o7 (n+k) (enc x) (enc y)=some (decide (x=y))
theorem rK(n:Nat)(i j:Int):o7 n (.int i) (.int j)=some (i==j):=by cases n<;>rfl
theorem Dw(n:Nat)(i j:Str):o7 n (.str i) (.str j)=some (i==j):=by cases n<;>rfl
theorem rM{α:Type}[DecidableEq α]{enc:α→D}{f:D→D→Option Bool}(h:∀x y,f (enc x) (enc y)=some (decide (x=y))):∀(xs ys:List α),rL f (xs.map enc) (ys.map enc)=some (decide (xs=ys))
 |[],[]=>rfl
 |[],_::_=>by simp[rL]
 |_::_,[]=>by simp[rL]
 |x::xs,y::ys=>by
  rw[List.map_cons,List.map_cons]
  show (match f (enc x) (enc y),rL f (xs.map enc) (ys.map enc) with | some b,some r=>some (b&&r) | _,_=>none)=_
  rw[h,rM h xs ys]
  show some (decide (x=y)&&decide (xs=ys))=_
  congr 1
  by_cases h1:x=y<;>by_cases h2:xs=ys<;>simp[h1,h2]
theorem AL:iP 1 cD:=fun k a b=>by
 rw[Nat.add_comm]
 show (match o7 k (.int (a.1:Int)) (.int (b.1:Int)),rL (o7 k) [.int (a.2:Int)] [.int (b.2:Int)] with | some b,some r=>some (b&&r) | _,_=>none)=_
 rw[rK]
 show (match some ((a.1:Int)==(b.1:Int)),(match o7 k (.int (a.2:Int)) (.int (b.2:Int)),rL (o7 k) [] [] with | some b,some r=>some (b&&r) | _,_=>none) with | some b,some r=>some (b&&r) | _,_=>none)=_
 rw[rK]
 show some (((a.1:Int)==(b.1:Int))&&(((a.2:Int)==(b.2:Int))&&true))=_
 rw[jL,jL,Bool.and_true]
 congr 1
 obtain⟨a1,a2⟩:=a
 obtain⟨b1,b2⟩:=b
 by_cases h1:a1=b1<;>by_cases h2:a2=b2<;>simp[h1,h2]
theorem mF{α:Type}[DecidableEq α]{enc:α→D}{n:Nat}(h:iP n enc):iP (n+1) (fun l:List α=> .lst (l.map enc)):=fun k x y=>by
 rw[show n+1+k=(n+k)+1 by omega]
 exact rM (h k) x y
theorem Dt{α:Type}[DecidableEq α]{enc:α→D}{n:Nat}(h:iP n enc):iP (n+1) (fun l:List α=> .tup (l.map enc)):=fun k x y=>by
 rw[show n+1+k=(n+k)+1 by omega]
 exact rM (h k) x y
theorem xH:iP 0 D.str:=fun k x y=>by
 rw[Dw]
 congr 1
theorem xG:iP 0 D.int:=fun k x y=>by
 rw[rK]
 congr 1
theorem Ds:iP 1 brd:=Dt xH
theorem AM{α:Type}[DecidableEq α]{enc:α→D}{n:Nat}(h:iP n enc)(hn:n≤6)(x y:α):kx (enc x) (enc y)=M.ret (.bl (decide (x=y))):=by
 have:=h (6 - n) x y
 rw[show n+(6 - n)=6 by omega] at this
 unfold kx
 rw[this]
theorem rH{α:Type}[DecidableEq α]{enc:α→D}{n:Nat}(h:iP n enc)(hn:n≤6)(x y:α):ky (enc x) (enc y)=M.ret (.bl (!decide (x=y))):=by
 have:=h (6 - n) x y
 rw[show n+(6 - n)=6 by omega] at this
 unfold ky
 rw[this]
abbrev cL(l:List Cell):D:= .lst (l.map cD)
theorem JC(a b:List Cell):ky (cL a) (cL b)=M.ret (.bl (!decide (a=b))):=rH (mF AL) (by decide) a b
theorem ID(a b:List Cell):kx (cL a) (cL b)=M.ret (.bl (decide (a=b))):=AM (mF AL) (by decide) a b
def ic(c:Cell):List Int:=[(c.1:Int),(c.2:Int)]
def AB(a b:Cell):Bool:=if a.1=b.1 then decide (a.2<b.2) else decide (a.1<b.1)
def DQ(k:Cell):List Cell→List Cell
 |[]=>[k]
 |x::r=>if AB k x then k::x::r else x::DQ k r
def cM:List Cell→List Cell
 |[]=>[]
 |k::r=>DQ k (cM r)
theorem wo(a b:Cell):dN (ic a) (ic b)=AB a b:=by
 show (if (a.1:Int)=(b.1:Int) then(if (a.2:Int)=(b.2:Int) then false else decide ((a.2:Int)<(b.2:Int))) else decide ((a.1:Int)<(b.1:Int)))=_
 unfold AB
 by_cases h:a.1=b.1
 ·rw[if_pos h,if_pos (by omega)]
  by_cases h2:a.2=b.2
  ·rw[if_pos (by omega),h2];simp
  ·rw[if_neg (by omega)]
   by_cases h3:a.2<b.2
   ·rw[decide_eq_true h3,decide_eq_true (by omega)]
   ·rw[decide_eq_false h3,decide_eq_false (by omega)]
 ·rw[if_neg h,if_neg (by omega)]
  by_cases h3:a.1<b.1
  ·rw[decide_eq_true h3,decide_eq_true (by omega)]
  ·rw[decide_eq_false h3,decide_eq_false (by omega)]
theorem Bd(k:Cell):∀l:List Cell,insI (ic k) (l.map ic)=(DQ k l).map ic
 |[]=>rfl
 |x::r=>by
  rw[List.map_cons]
  unfold insI DQ
  rw[wo]
  cases AB k x with
  |true=>rfl
  |false=>rw[if_neg (by decide),if_neg (by decide),List.map_cons,Bd k r]
theorem iH:∀l:List Cell,sortI (l.map ic)=(cM l).map ic
 |[]=>rfl
 |k::r=>by
  rw[List.map_cons]
  unfold sortI cM
  rw[iH r,Bd]
theorem rV{a b:Cell}(h:ic a=ic b):a=b:=by
 unfold ic at h
 injection h with h1 h2
 injection h2 with h2 _
 exact Prod.ext (Int.ofNat.inj h1) (Int.ofNat.inj h2)
theorem fM{x:Cell}{l:List Cell}:x∈cM l↔x∈l:=by
 have h:=dm (x:=ic x) (l:=l.map ic)
 rw[iH] at h
 constructor
 ·intro hx
  obtain⟨y,hy,e⟩:=List.mem_map.mp (h.mp (List.mem_map.mpr ⟨x,hx,rfl⟩))
  rw[←rV e];exact hy
 ·intro hx
  obtain⟨y,hy,e⟩:=List.mem_map.mp (h.mpr (List.mem_map.mpr ⟨x,hx,rfl⟩))
  rw[←rV e];exact hy
def RiseC(l:List Cell):Prop:=l.Pairwise fun a b=>AB a b=true
theorem sR{l:List Cell}:vP (l.map ic)↔RiseC l:=by
 unfold vP RiseC
 rw[List.pairwise_map]
 constructor<;>intro h<;>refine List.Pairwise.imp ?_ h<;>intro a b q
 ·rw[←wo];exact q
 ·rw[wo];exact q
theorem uE{l:List Cell}(h:l.Nodup):(l.map ic).Nodup:=by
 unfold List.Nodup at h⊢
 rw[List.pairwise_map]
 exact List.Pairwise.imp (fun h z=>h (rV z)) h
theorem gB{l:List Cell}(h:l.Nodup):RiseC (cM l):=by
 have:=eU (uE h)
 rw[iH] at this
 exact sR.mp this
theorem kZ{a b:List Cell}(ha:RiseC a)(hb:RiseC b)(h:∀x,x∈a↔x∈b):a=b:=by
 have e:=j1 (sR.mpr ha) (sR.mpr hb) fun x=>by
  constructor
  ·intro hx
   obtain⟨y,hy,rfl⟩:=List.mem_map.mp hx
   exact List.mem_map.mpr ⟨y,(h y).mp hy,rfl⟩
  ·intro hx
   obtain⟨y,hy,rfl⟩:=List.mem_map.mp hx
   exact List.mem_map.mpr ⟨y,(h y).mpr hy,rfl⟩
 have inj:∀(a b:List Cell),a.map ic=b.map ic→a=b:=by
  intro a
  induction a with
  |nil=>intro b h;cases b with
   |nil=>rfl
   |cons=>simp at h
  |cons x a ih=>intro b h;cases b with
   |nil=>simp at h
   |cons y b=>
    rw[List.map_cons,List.map_cons] at h
    injection h with h1 h2
    rw[rV h1,ih b h2]
 exact inj a b e
theorem kF(l:List Cell):(cM l).length=l.length:=by
 have:=iG (l.map ic)
 rw[iH,List.length_map,List.length_map] at this
 exact this
theorem RiseC.nodup{l:List Cell}(h:RiseC l):l.Nodup:=by
 refine List.Pairwise.imp ?_ h
 intro a b q z
 subst z
 unfold AB at q
 rw[if_pos rfl] at q
 have:=of_decide_eq_true q
 omega
theorem kC:∀ks:List Cell,eQ (ks.map keyOf)=some (ks.map ic)
 |[]=>rfl
 |k::r=>by
  show (match qf (keyOf k),eQ (r.map keyOf) with | some x,some xs=>some (x::xs) | _,_=>none)=_
  rw[kC r]
  rfl
theorem FG{ks:List Cell}(h:ks.Nodup)(hl:ks.length<64):dY (ks.map ic)=true:=by
 unfold dY
 rw[List.length_map,decide_eq_true (uE h),decide_eq_true hl]
 simp
 intro a b _ z
 cases z
theorem vq{ks:List Cell}{ds:List D}(h:ks.Nodup)(hl:ks.length<64):oQ [.dct (ks.map keyOf) ds]=M.ret (cL (cM ks)):=by
 show (match eQ (ks.map keyOf) with | some ks=>if dY ks&&ks.all (fun k=>decide (k.length≤lim)) then M.ret (D.lst ((sortI ks).map tupI)) else M.stuck | none=>M.stuck)=_
 rw[kC]
 show (if dY (ks.map ic)&&(ks.map ic).all (fun k=>decide (k.length≤lim)) then M.ret (D.lst ((sortI (ks.map ic)).map tupI)) else M.stuck)=_
 rw[FG h hl]
 have:(ks.map ic).all (fun k=>decide (k.length≤lim))=true:=by
  simp
  intro a b _
  show 2≤lim
  decide
 rw[this,Bool.and_true,if_pos rfl,iH,List.map_map]
 rfl
def Cn(bd:List Str)(W w:Nat)(a b:Cell):Prop:=∃j,Rb (a8 bd W w) a j b
theorem Cn.refl{bd:List Str}{W w:Nat}{a:Cell}:Cn bd W w a a:=⟨0,rfl⟩
theorem wq{bd:List Str}{W w:Nat}(hw:Ways w){a b:Cell}(ha:On bd.length W a)(h:b∈a8 bd W w a):a∈a8 bd W w b:=by
 obtain⟨h1,h2,h3⟩:=(bU hw).mp h
 exact(bU hw).mpr ⟨ha,by rw[nW];exact h2,h3.symm⟩
theorem u9{bd:List Str}{W w:Nat}(hw:Ways w){a b:Cell}(ha:On bd.length W a):∀{j:Nat},Rb (a8 bd W w) a j b→On bd.length W b
 |0,h=>by rw[show b=a from h];exact ha
 |j+1, .inl h=>u9 hw ha h
 |j+1, .inr ⟨y,_,hy⟩=>((bU hw).mp hy).1
theorem oC{bd:List Str}{W w:Nat}{a c b:Cell}(h:c∈a8 bd W w a):∀{j:Nat},Rb (a8 bd W w) c j b→Rb (a8 bd W w) a (j+1) b
 |0,q=> .inr ⟨a,rfl,by rw[show b=c from q];exact h⟩
 |j+1, .inl q=> .inl (oC h q)
 |j+1, .inr ⟨y,q,hy⟩=> .inr ⟨y,oC h q,hy⟩
theorem sM{bd:List Str}{W w:Nat}(hw:Ways w){a b:Cell}(ha:On bd.length W a):∀{j:Nat},Rb (a8 bd W w) a j b→Rb (a8 bd W w) b j a
 |0,h=>show a=b from(show b=a from h).symm
 |j+1, .inl h=> .inl (sM hw ha h)
 |j+1, .inr ⟨y,q,hy⟩=>oC (wq hw (u9 hw ha q) hy) (sM hw ha q)
theorem oD{bd:List Str}{W w:Nat}{a b c:Cell}{i:Nat}(h:Rb (a8 bd W w) a i b):∀{j:Nat},Rb (a8 bd W w) b j c→Rb (a8 bd W w) a (i+j) c
 |0,q=>by rw[show c=b from q];exact h
 |j+1, .inl q=> .inl (oD h q)
 |j+1, .inr ⟨y,q,hy⟩=> .inr ⟨y,oD h q,hy⟩
theorem kT{bd:List Str}{W w:Nat}(hw:Ways w){a b:Cell}:∀{j:Nat},Rb (a8 bd W w) a j b→lt bd b=lt bd a
 |0,h=>by rw[show b=a from h]
 |j+1, .inl h=>kT hw h
 |j+1, .inr ⟨y,q,hy⟩=>((bU hw).mp hy).2.2.trans (kT hw q)
section
variable{bd:List Str}{W w:Nat}{a b c:Cell}
theorem Cn.on(hw:Ways w)(ha:On bd.length W a)(h:Cn bd W w a b):On bd.length W b:=let ⟨_,q⟩:=h;u9 hw ha q
theorem Cn.symm(hw:Ways w)(ha:On bd.length W a)(h:Cn bd W w a b):Cn bd W w b a:=let ⟨j,q⟩:=h;⟨j,sM hw ha q⟩
theorem Cn.trans(h:Cn bd W w a b)(h2:Cn bd W w b c):Cn bd W w a c:=let ⟨i,q⟩:=h;let ⟨j,r⟩:=h2;⟨i+j,oD q r⟩
theorem Cn.letter(hw:Ways w)(h:Cn bd W w a b):lt bd b=lt bd a:=let ⟨_,q⟩:=h;kT hw q
theorem Cn.step(h:Cn bd W w a b)(h2:c∈a8 bd W w b):Cn bd W w a c:=let ⟨j,q⟩:=h;⟨j+1, .inr ⟨b,q,h2⟩⟩
end
structure IsPatch (bd:List Str) (W w:Nat) (a:Cell) (P:List Cell):Prop where
 rise:RiseC P
 mem:∀x,x∈P↔Cn bd W w a x
theorem IsPatch.one{bd:List Str}{W w:Nat}{a:Cell}{P Q:List Cell}(h:IsPatch bd W w a P)(h2:IsPatch bd W w a Q):P=Q:=kZ h.rise h2.rise fun x=>(h.mem x).trans (h2.mem x).symm
theorem mD{bd:List Str}{W:Nat}{ks:List Cell}(hn:ks.Nodup)(mH:∀x∈ks,On bd.length W x):ks.length≤bd.length*W:=by
 rw[←cF bd.length W]
 exact jM hn fun x hx=>aH.mpr (mH x hx)
theorem IT:((ay 8 8).map fun c=>c0 (ic c)).Nodup:=by decide+kernel
theorem kJ{α β:Type}{f:α→β}:∀{l:List α},(l.map f).Nodup→∀a∈l,∀b∈l,f a=f b→a=b
 |x::l,h,a,ha,b,hb,e=>by
  rw[List.map_cons,List.nodup_cons] at h
  by_cases h1:a=x
  ·by_cases h2:b=x
   ·rw[h1,h2]
   ·have hb:b∈l:=(List.mem_cons.mp hb).resolve_left h2
    exact absurd (List.mem_map.mpr ⟨b,hb,by rw[←h1];exact e.symm⟩) h.1
  ·have ha:a∈l:=(List.mem_cons.mp ha).resolve_left h1
   by_cases h2:b=x
   ·exact absurd (List.mem_map.mpr ⟨a,ha,by rw[←h2];exact e⟩) h.1
   ·exact kJ h.2 a ha b ((List.mem_cons.mp hb).resolve_left h2) e
theorem DD{R W:Nat}(hR:R≤8)(hW:W≤8){l:List Cell}(hn:l.Nodup)(mH:∀x∈l,On R W x):(l.map fun c=>c0 (ic c)).Nodup:=by
 have h8:∀x∈l,x∈ay 8 8:=fun x hx=>aH.mpr ⟨by have:=(mH x hx).1;omega,by have:=(mH x hx).2;omega⟩
 rw[List.Nodup,List.pairwise_map]
 refine List.Pairwise.imp_of_mem (fun {a b} ha hb h z=>h ?_) hn
 exact kJ IT a (h8 a ha) b (h8 b hb) z
theorem uq:∀l:List Cell,gb (l.map cD)=some (l.map ic)
 |[]=>rfl
 |c::l=>by
  show (match Fz (cD c),gb (l.map cD) with | some k,some ks=>some (k::ks) | _,_=>none)=_
  rw[uq l]
  rfl
theorem CI{l:List Cell}(h:RiseC l):cM l=l:=kZ (gB h.nodup) h fun x=>fM
def Iq(w:Nat):List Cell→Bool
 |a::b::r=>gG w a b&&Iq w (b::r)
 |_=>true
structure IsWay (bd:List Str) (W w:Nat) (a b:Cell) (p:List Cell):Prop where
 on:∀x∈p,On bd.length W x
 hd:p.head? =some a
 lst:p.getLast? =some b
 let':∀x∈p,lt bd x=lt bd a
 PR:Iq w p=true
theorem tP{α:Type}{l:List α}{x:α}:L2.atI (l++[x]) (-1)=some x:=by
 unfold L2.atI De
 rw[if_neg (by decide)]
 have: -((l++[x]).length:Int)≤ -1:=by simp;omega
 rw[if_pos this]
 have e:((-1:Int)+((l++[x]).length:Int)).toNat=l.length:=by simp;omega
 show (l++[x])[((-1:Int)+((l++[x]).length:Int)).toNat]? =some x
 rw[e]
 simp
theorem Jw{l:List Cell}{x:Cell}:fI (cL (l++[x])) (.int (-1))=M.ret (cD x):=by
 show (match L2.atI ((l++[x]).map cD) (-1) with | some d=>M.ret d | none=>M.stuck)=_
 rw[List.map_append,show [x].map cD=[cD x] from rfl,tP]
theorem Bm{l:List Cell}{i:Nat}{x:Cell}(h:l[i]? =some x):fI (cL l) (.int (i:Int))=M.ret (cD x):=by
 show (match L2.atI (l.map cD) (i:Int) with | some d=>M.ret d | none=>M.stuck)=_
 rw[eJ (x:=cD x) (by rw[List.getElem?_map,h];rfl)]
structure Trail (nb:Cell→List Cell) (b:Cell) (p:List Cell) (x:Cell):Prop where
 hd:p.head? =some x
 lst:p.getLast? =some b
 ch:∀l r u v,p=l++u::v::r→u∈nb v
abbrev wr(bd w a b k t:D):aX:=[fz bd,fz w,fz a,fz b,fz k,fz t]
theorem mW{α:Type}{f:D→M (Option D)}(enc:α→D)(g:α→D):∀(xs:List α),(∀x∈xs,f (enc x)=M.ret (some (g x)))→cZ f (xs.map enc)=M.ret (xs.map g)
 |[],_=>rfl
 |x::xs,h=>by
  rw[List.map_cons,dR,h x (List.mem_cons_self ..),aq,mW enc g xs fun y hy=>h y (List.mem_cons_of_mem _ hy)]
  rfl
theorem ND{ρ:aX}{i:Nat}{ds:List D}(h:ρ[i]? =some (fz (.lst ds))):eM (dV i) ρ=M.ret ds:=by
 unfold eM
 rw[km h]
 rfl
def bE(ks:List Cell)(c:Cell):List Cell:=if c∈ks then ks else ks++[c]
def bz(l:List Cell):List Cell:=l.foldl bE []
def aI(ks:List Cell):List D:=ks.map fun _=> .bl true
theorem fC{ks:List Cell}{c x:Cell}:x∈bE ks c↔x∈ks∨x=c:=by
 unfold bE
 split
 ·rename_i h
  exact⟨.inl,fun q=>q.elim id fun e=>by rw[e];exact h⟩
 ·simp
theorem lC:∀(l ks:List Cell),(ks.Nodup→(l.foldl bE ks).Nodup)∧(∀x,x∈l.foldl bE ks↔x∈ks∨x∈l)∧(l.foldl bE ks).length≤ks.length+l.length
 |[],ks=>⟨id,fun x=>by simp,by simp⟩
 |c::l,ks=>by
  obtain⟨h1,h2,h3⟩:=lC l (bE ks c)
  refine⟨fun hn=>h1 ?_,fun x=>?_,?_⟩
  ·unfold bE
   split
   ·exact hn
   ·rename_i hc
    refine List.nodup_append.mpr ⟨hn,by simp,fun y hy z hz e=>?_⟩
    have hz:z=c:=by simpa using hz
    rw[e,hz] at hy
    exact hc hy
  ·rw[List.foldl_cons,h2 x,fC]
   simp[or_assoc]
  ·rw[List.foldl_cons,List.length_cons]
   have:(bE ks c).length≤ks.length+1:=by unfold bE;split<;>simp
   omega
theorem kI{l:List Cell}{x:Cell}:x∈bz l↔x∈l:=by
 unfold bz
 rw[(lC l []).2.1 x]
 simp
theorem Bu(l:List Cell):(bz l).Nodup:=(lC l []).1 List.nodup_nil
theorem zl(l:List Cell):(bz l).length≤l.length:=by have:=(lC l []).2.2;simpa[bz] using this
theorem qT{k:List Key}:∀{ks:List (List Key)}{l:List Cell},ks.length=l.length→kY ks (aI l) k (.bl true)=aI l
 |[],[],_=>rfl
 |k'::ks,c::l,h=>by
  show (if k'=k then D.bl true else D.bl true)::kY ks (aI l) k (.bl true)=_
  rw[qT (by simpa using h)]
  split<;>rfl
 |[],_::_,h=>by simp at h
 |_::_,[],h=>by simp at h
theorem Cj{ks:List Cell}{c:Cell}(hl:ks.length<lim):kS (.dct (ks.map keyOf) (aI ks)) (cD c) (.bl true)=some (.dct ((bE ks c).map keyOf) (aI (bE ks c))):=by
 have hlen:(aI ks).length=ks.length:=by simp[aI]
 unfold bE
 by_cases h:c∈ks
 ·rw[if_pos h]
  show (match jz (cD c) with | some kk=>if (aI ks).length<lim then some (C.dct (cW (ks.map keyOf) (aI ks) kk) (b5 (ks.map keyOf) (aI ks) kk (.bl true))) else none | none=>none)=_
  rw[jA]
  show (if (aI ks).length<lim then some (C.dct (cW (ks.map keyOf) (aI ks) (keyOf c)) (b5 (ks.map keyOf) (aI ks) (keyOf c) (.bl true))) else none)=_
  rw[if_pos (by rw[hlen];exact hl)]
  obtain⟨d,e,_⟩:=lg (ds:=aI ks) hlen.symm h
  unfold cW b5
  rw[e]
  show some (C.dct (ks.map keyOf) (kY (ks.map keyOf) (aI ks) (keyOf c) (.bl true)))=_
  rw[qT (by simp)]
 ·rw[if_neg h,u5 h (by rw[hlen];exact hl)]
  simp[aI]
abbrev wm(l:List Cell):D:= .dct ((bz l).map keyOf) (aI (bz l))
theorem zh{l:List Cell}(hl:l.length<4000):jm [cL l]=M.ret (wm l):=by
 have e:∀(xs ks:List Cell),ks.length+xs.length<4000→forL (putN 2) (cH [2] (gH 1 (dV 2) (dC (.bl true)))) (xs.map cD) [fz (cL l),some (.ow (.dct (ks.map keyOf) (aI ks))),none]=M.ret (.nx [fz (cL l),some (.ow (.dct ((xs.foldl bE ks).map keyOf) (aI (xs.foldl bE ks)))),none]):=by
  intro xs
  induction xs with
  |nil=>intro ks _;rfl
  |cons x xs ih=>
   intro ks hk
   rw[List.length_cons] at hk
   have hle:(bE ks x).length≤ks.length+1:=by unfold bE;split<;>simp
   refine(cP (ρ1:=[fz (cL l),some (.ow (.dct (ks.map keyOf) (aI ks))),fz (cD x)]) (ρ2:=[fz (cL l),some (.ow (.dct ((bE ks x).map keyOf) (aI (bE ks x)))),none]) rfl ?_).trans (ih (bE ks x) (by omega))
   refine(bB (ρ':=[fz (cL l),some (.ow (.dct ((bE ks x).map keyOf) (aI (bE ks x)))),fz (cD x)]) ?_).trans rfl
   show (match kS (.dct (ks.map keyOf) (aI ks)) (cD x) (.bl true) with | some c'=>M.ret (Out.nx [fz (cL l),some (.ow c'),fz (cD x)]) | none=>M.stuck)=_
   rw[Cj (by rw[eA];omega)]
 refine a_ (aj (ρ':=[fz (cL l),some (.ow (.dct [] [])),none]) rfl (aj (ρ':=[fz (cL l),some (.ow (.dct ((bz l).map keyOf) (aI (bz l)))),none]) (fe (fV (ds:=l.map cD) rfl (e l [] (by simpa using hl)))) rfl))
section
variable{bd:List Str}{W w:Nat}{a b c:Cell}{p q:List Cell}
end
theorem G0(l:List Cell):aU [cL l]=M.ret (.int (l.length:Int)):=by
 show M.ret (D.int ((l.map cD).length:Int))=_
 rw[List.length_map]
theorem qB(a b:Nat):ky (.int (a:Int)) (.int (b:Int))=M.ret (.bl (!(a==b))):=by
 rw[ne_int,jL]
theorem JA(a b:Nat):IH (.int (a:Int)) (.int (b:Int))=M.ret (.bl (decide (b<a))):=by
 show M.ret (D.bl (decide ((b:Int)<(a:Int))))=_
 congr 2
 rw[decide_eq_decide]
 omega
def Dr(ks:List Cell)(f:Cell→D):C:= .dct (ks.map keyOf) (ks.map f)
def p5(ks:List Cell)(f:Cell→D):D:= .dct (ks.map keyOf) (ks.map f)
def eF(f:Cell→D)(x:Cell)(d:D):Cell→D:=fun y=>if y=x then d else f y
theorem mM{f:Cell→D}{x:Cell}:∀{ks:List Cell},x∈ks→eV (ks.map keyOf) (ks.map f) (keyOf x)=some (f x)
 |y::ks,h=>by
  show (if keyOf y=keyOf x then some (f y) else eV (ks.map keyOf) (ks.map f) (keyOf x))=_
  by_cases e:y=x
  ·subst e;rw[if_pos rfl]
  ·rw[if_neg (fun z=>e (iy z))]
   rcases List.mem_cons.mp h with q | q
   ·exact absurd q.symm e
   ·exact mM q
theorem Bj{ks:List Cell}{f:Cell→D}{x:Cell}(h:x∈ks):v9 (p5 ks f) (cD x)=M.ret (f x):=by
 show (match ((jz (cD x)).map fun k=>eV (ks.map keyOf) (ks.map f) k) with | some (some v)=>M.ret v | _=>M.stuck)=_
 rw[jA]
 show (match some (eV (ks.map keyOf) (ks.map f) (keyOf x)) with | some (some v)=>M.ret v | _=>M.stuck)=_
 rw[mM h]
theorem sP{f:Cell→D}{x:Cell}{d:D}:∀{ks:List Cell},kY (ks.map keyOf) (ks.map f) (keyOf x) d=ks.map (eF f x d)
 |[]=>rfl
 |y::ks=>by
  show (if keyOf y=keyOf x then d else f y)::kY (ks.map keyOf) (ks.map f) (keyOf x) d=_
  rw[sP,List.map_cons]
  congr 1
  unfold eF
  by_cases e:y=x
  ·subst e;rw[if_pos rfl,if_pos rfl]
  ·rw[if_neg (fun z=>e (iy z)),if_neg e]
theorem EI{ks:List Cell}{f:Cell→D}{x:Cell}{d:D}(hl:ks.length<lim):kS (Dr ks f) (cD x) d=some (Dr (bE ks x) (eF f x d)):=by
 show (match jz (cD x) with | some kk=>if (ks.map f).length<lim then some (C.dct (cW (ks.map keyOf) (ks.map f) kk) (b5 (ks.map keyOf) (ks.map f) kk d)) else none | none=>none)=_
 rw[jA]
 show (if (ks.map f).length<lim then some (C.dct (cW (ks.map keyOf) (ks.map f) (keyOf x)) (b5 (ks.map keyOf) (ks.map f) (keyOf x) d)) else none)=_
 rw[if_pos (by rw[List.length_map];exact hl)]
 unfold Dr bE cW b5
 by_cases h:x∈ks
 ·rw[mM h,if_pos h]
  show some (C.dct (ks.map keyOf) (kY (ks.map keyOf) (ks.map f) (keyOf x) d))=_
  rw[sP]
 ·rw[fX h,if_neg h]
  show some (C.dct (ks.map keyOf++[keyOf x]) (ks.map f++[d]))=_
  have e1:ks.map f=ks.map (eF f x d):=List.map_congr_left fun y hy=>by
   unfold eF;rw[if_neg (fun z:y=x=>h (z▸hy))]
  have e2:(ks++[x]).map (eF f x d)=ks.map (eF f x d)++[d]:=by
   rw[List.map_append]
   congr 1
   show [eF f x d x]=[d]
   unfold eF;rw[if_pos rfl]
  rw[List.map_append,e1,e2]
  rfl
theorem yp{i:Nat}{δk δv:DE}{ρ:aX}{ks:List Cell}{f:Cell→D}{x:Cell}{d:D}(h0:ρ[i]? =some (some (.ow (Dr ks f))))(hv:δv ρ=M.ret d)(hk:δk ρ=M.ret (cD x))(hl:ks.length<lim):
 gH i δk δv ρ=M.ret (.nx (ρ.set i (some (.ow (Dr (bE ks x) (eF f x d)))))):=by
 unfold gH wL
 rw[h0]
 show (δv ρ>>=fun v=>δk ρ>>=fun k=>match kS (Dr ks f) k v with | some c'=>M.ret (Out.nx (ρ.set i (some (.ow c')))) | none=>M.stuck)=_
 rw[hv,aq,hk,aq,EI hl]
def rank(W:Nat)(x:Cell):Nat:=x.1*W+x.2
theorem fE{R W:Nat}{a b:Cell}(ha:On R W a)(hb:On R W b):AB a b=true↔rank W a<rank W b:=by
 unfold AB rank
 have h1:=ha.2
 have h2:=hb.2
 by_cases h:a.1=b.1
 ·rw[if_pos h,decide_eq_true_eq,h];omega
 ·rw[if_neg h,decide_eq_true_eq]
  constructor
  ·intro q
   have:(a.1+1)*W≤b.1*W:=Nat.mul_le_mul_right _ q
   rw[Nat.add_mul,Nat.one_mul] at this
   omega
  ·intro q
   refine Classical.byContradiction fun z=>?_
   have:(b.1+1)*W≤a.1*W:=Nat.mul_le_mul_right _ (by omega)
   rw[Nat.add_mul,Nat.one_mul] at this
   omega
theorem u7{R W:Nat}{a b:Cell}(ha:On R W a)(hb:On R W b)(h:rank W a=rank W b):a=b:=by
 have n1:¬AB a b=true:=fun z=>by have:=(fE ha hb).mp z;omega
 have n2:¬AB b a=true:=fun z=>by have:=(fE hb ha).mp z;omega
 unfold AB at n1 n2
 obtain⟨a1,a2⟩:=a
 obtain⟨b1,b2⟩:=b
 simp only at n1 n2
 by_cases h1:a1=b1
 ·rw[if_pos h1,decide_eq_true_eq] at n1
  rw[if_pos h1.symm,decide_eq_true_eq] at n2
  rw[Prod.mk.injEq];exact⟨h1,by omega⟩
 ·rw[if_neg h1,decide_eq_true_eq] at n1
  rw[if_neg (Ne.symm h1),decide_eq_true_eq] at n2
  omega
theorem EL{R W:Nat}{a:Cell}(ha:On R W a):rank W a<R*W:=by
 unfold rank
 have:(a.1+1)*W≤R*W:=Nat.mul_le_mul_right _ ha.1
 rw[Nat.add_mul,Nat.one_mul] at this
 have:=ha.2
 omega
section
variable{bd:List Str}{W w:Nat}
structure Lab (bd:List Str) (W w:Nat) (L:Cell→Cell):Prop where
 on:∀x,On bd.length W x→On bd.length W (L x)
 cn:∀x,On bd.length W x→Cn bd W w x (L x)
 le:∀x,On bd.length W x→rank W (L x)≤rank W x
def mu(R W:Nat)(L:Cell→Cell):Nat:=((ay R W).map fun x=>rank W (L x)).sum
end
theorem Ma{δ:DE}{ρ:aX}{l:List Cell}(h:δ ρ=M.ret (cL l)):eM δ ρ=M.ret (l.map cD):=by
 show (δ ρ>>=lstM)=_
 rw[h]
 rfl
theorem eX(R W:Nat):RiseC (ay R W):=by
 unfold RiseC ay dj
 rw[List.pairwise_flatMap]
 constructor
 ·intro r _
  rw[List.pairwise_map]
  exact List.pairwise_lt_range.imp fun h=>by show (if _ then _ else _)=true;rw[if_pos rfl,decide_eq_true_eq];exact h
 ·refine List.pairwise_lt_range.imp fun {a b} h x hx y hy=>?_
  obtain⟨i,_,rfl⟩:=List.mem_map.mp hx
  obtain⟨j,_,rfl⟩:=List.mem_map.mp hy
  show (if a=b then _ else decide (a<b))=true
  rw[if_neg (by omega),decide_eq_true_eq]
  exact h
section
variable{bd:List Str}{W w:Nat}
def Least(bd:List Str)(W w:Nat)(x m:Cell):Prop:=Cn bd W w x m∧∀z,Cn bd W w x z→rank W m≤rank W z
end
theorem Hw{ks:List Cell}{f:Cell→D}{x:Cell}{d:D}:cW (ks.map keyOf) (ks.map f) (keyOf x)=(bE ks x).map keyOf∧b5 (ks.map keyOf) (ks.map f) (keyOf x) d=(bE ks x).map (eF f x d):=by
 unfold bE cW b5
 by_cases h:x∈ks
 ·rw[mM h,if_pos h]
  exact⟨rfl,sP⟩
 ·rw[fX h,if_neg h]
  have e1:ks.map f=ks.map (eF f x d):=List.map_congr_left fun y hy=>by
   unfold eF;rw[if_neg (fun z:y=x=>h (z▸hy))]
  have e2:(ks++[x]).map (eF f x d)=ks.map (eF f x d)++[d]:=by
   rw[List.map_append]
   congr 1
   show [eF f x d x]=[d]
   unfold eF;rw[if_pos rfl]
  exact⟨by rw[List.map_append];rfl,by rw[e2,←e1];rfl⟩
theorem nO:∀(l ks:List Cell),bQ (ks.map keyOf) (aI ks) (l.map keyOf) (aI l)=((l.foldl bE ks).map keyOf,aI (l.foldl bE ks))
 |[],ks=>rfl
 |x::l,ks=>by
  show bQ (cW (ks.map keyOf) (aI ks) (keyOf x)) (b5 (ks.map keyOf) (aI ks) (keyOf x) (.bl true)) (l.map keyOf) (aI l)=_
  have h:=Hw (ks:=ks) (f:=fun _=>D.bl true) (x:=x) (d:= .bl true)
  have e:eF (fun _=>D.bl true) x (.bl true)=fun _=>D.bl true:=by
   funext y;unfold eF;split<;>rfl
  rw[e] at h
  rw[show aI ks=ks.map (fun _=>D.bl true) from rfl,h.1,h.2]
  exact nO l (bE ks x)
theorem ue{l ks:List Cell}(h:ks.Nodup):(l.foldl bE ks).Nodup:=(lC l ks).1 h
section
open Classical
variable{bd:List Str}{W w:Nat}
noncomputable def aY(bd:List Str)(W w:Nat)(m:Cell):List Cell:=(ay bd.length W).filter fun x=>decide (Cn bd W w m x)
noncomputable def bA(bd:List Str)(W w:Nat)(l:List Cell):List Cell:=l.filter fun x=>decide (Least bd W w x x)
theorem cq(hw:Ways w){m:Cell}(hm:On bd.length W m):IsPatch bd W w m (aY bd W w m):=by
 refine⟨(eX _ _).filter _,fun x=>?_⟩
 unfold aY
 rw[List.mem_filter,aH,decide_eq_true_eq]
 exact⟨fun h=>h.2,fun h=>⟨h.on hw hm,h⟩⟩
theorem Least.on(hw:Ways w){x m:Cell}(hx:On bd.length W x)(h:Least bd W w x m):On bd.length W m:=h.1.on hw hx
theorem Least.move(hw:Ways w){x y m:Cell}(hx:On bd.length W x)(h:Least bd W w x m)(hy:Cn bd W w x y):Least bd W w y m:=
 ⟨(hy.symm hw hx).trans h.1,fun z hz=>h.2 z (hy.trans hz)⟩
theorem Least.one(hw:Ways w){x m n:Cell}(hx:On bd.length W x)(h:Least bd W w x m)(h2:Least bd W w x n):m=n:=
 u7 (h.on hw hx) (h2.on hw hx) (Nat.le_antisymm (h.2 n h2.1) (h2.2 m h.1))
theorem Least.self(hw:Ways w){x m:Cell}(hx:On bd.length W x)(h:Least bd W w x m):Least bd W w m m:=h.move hw hx h.1
variable(L:Cell→Cell)
theorem iz(hw:Ways w):∃L:Cell→Cell,∀x,On bd.length W x→Least bd W w x (L x):=by
 have h:∀x,∃m,On bd.length W x→Least bd W w x m:=fun x=>by
  by_cases hx:On bd.length W x
  ·have hP:=cq hw hx
   cases hp:aY bd W w x with
   |nil=>have:=(hP.mem x).mpr Cn.refl;rw[hp] at this;cases this
   |cons m r=>
    rw[hp] at hP
    have hm:=(hP.mem m).mp (List.mem_cons_self ..)
    refine⟨m,fun _=>⟨hm,fun z hz=>?_⟩⟩
    rcases List.mem_cons.mp ((hP.mem z).mpr hz) with rfl | Pd
    ·exact Nat.le_refl _
    ·exact Nat.le_of_lt ((fE (hm.on hw hx) (hz.on hw hx)).mp ((List.pairwise_cons.mp hP.rise).1 z Pd))
  ·exact⟨x,fun z=>absurd z hx⟩
 exact⟨fun x=>Classical.choose (h x),fun x=>Classical.choose_spec (h x)⟩
noncomputable def jU(bd:List Str)(W w:Nat):D:= .lst ((bA bd W w (ay bd.length W)).map fun m=>cL (aY bd W w m))
end
section
open Classical
variable{bd:List Str}{W w:Nat}
def MT:DS:=(cH [4,5] (gq (FL (cY (d2 (pw true) (dV 4) (dV 3)))) (aB (bJ 5 (dA oQ (aC (ah 3 b_ (aC (dV 0) (aC (dV 4) (aC (dV 1) aN)))) aN))) (aB (pK 2 (dV 5)) (zQ 3 (ah 1 jm (aC (dV 5) aN))))) cJ))
noncomputable def yE(bd:List Str)(W w:Nat)(s:List Cell):List D:=(bA bd W w s).map fun m=>cL (aY bd W w m)
noncomputable def C7(bd:List Str)(W w:Nat)(s ks:List Cell)(x4 x5:Option Sl):aX:=[fz (brd bd),fz (.int (w:Int)),some (.ow (.lst (yE bd W w s))),some (.ow (.dct (ks.map keyOf) (aI ks))),x4,x5]
structure Seen (bd:List Str) (W w:Nat) (s ks:List Cell):Prop where
 nd:ks.Nodup
 on:∀y∈ks,On bd.length W y
 mem:∀y,y∈ks↔∃m∈bA bd W w s,Cn bd W w m y
theorem C0{i:Nat}{δ:DE}{ρ:aX}{ks l:List Cell}(h0:ρ[i]? =some (some (.ow (.dct (ks.map keyOf) (aI ks)))))(hd:δ ρ=M.ret (wm l))(hz:ks.length+l.length≤4096)(hh:ks=[]→((bz l).map fun c=>c0 (ic c)).Nodup):
 zQ i δ ρ=M.ret (.nx (ρ.set i (some (.ow (.dct (((bz l).foldl bE ks).map keyOf) (aI ((bz l).foldl bE ks))))))):=by
 unfold zQ wL
 rw[h0]
 show (δ ρ>>=fun d=>match CZ (ks.map keyOf) (aI ks) d with | some c'=>M.ret (Out.nx (ρ.set i (some (.ow c')))) | none=>M.stuck)=_
 rw[hd,aq]
 have:CZ (ks.map keyOf) (aI ks) (wm l)=some (.dct (((bz l).foldl bE ks).map keyOf) (aI ((bz l).foldl bE ks))):=by
  show (match eQ ((bz l).map keyOf) with | some ns=>if (aI ks).length+(aI (bz l)).length≤lim∧((ks.map keyOf).isEmpty=true→(ns.map c0).Nodup) then some (C.dct (bQ (ks.map keyOf) (aI ks) ((bz l).map keyOf) (aI (bz l))).1 (bQ (ks.map keyOf) (aI ks) ((bz l).map keyOf) (aI (bz l))).2) else none | none=>none)=_
  rw[kC]
  show (if (aI ks).length+(aI (bz l)).length≤lim∧((ks.map keyOf).isEmpty=true→(((bz l).map ic).map c0).Nodup) then some (C.dct (bQ (ks.map keyOf) (aI ks) ((bz l).map keyOf) (aI (bz l))).1 (bQ (ks.map keyOf) (aI ks) ((bz l).map keyOf) (aI (bz l))).2) else none)=_
  have c1:(aI ks).length+(aI (bz l)).length≤lim:=by
   have:=zl l
   unfold aI
   rw[List.length_map,List.length_map,eA];omega
  have c2:(ks.map keyOf).isEmpty=true→(((bz l).map ic).map c0).Nodup:=fun z=>by
   rw[List.map_map]
   exact hh (by cases ks with | nil=>rfl | cons _ _=>cases z)
  rw[if_pos ⟨c1,c2⟩,nO]
 rw[this]
theorem vp(hg:Brd bd W)(hs:bd.length*W<64)(hw:Ways w){x:Cell}(hx:On bd.length W x){ρ:aX}(h0:dV 0 ρ=M.ret (brd bd))(h1:dV 1 ρ=M.ret (.int (w:Int)))(h4:dV 4 ρ=M.ret (cD x)):
 dA oQ (aC (ah 3 b_ (aC (dV 0) (aC (dV 4) (aC (dV 1) aN)))) aN) ρ=M.ret (cL (aY bd W w x)):=by
 obtain⟨k,ks,ps,q1,q2,q3⟩:=oT hg hw hx
 have e1:ah 3 b_ (aC (dV 0) (aC (dV 4) (aC (dV 1) aN))) ρ=M.ret (xB ks ps):=(ak (ds:=[brd bd,cD x, .int (w:Int)]) (aJ h0 (aJ h4 (aJ h1 rfl))) rfl).trans q3
 refine(cu (xs:=[xB ks ps]) (aJ e1 rfl)).trans ((vq q1.nd (Nat.lt_of_le_of_lt (mD q1.nd q2) hs)).trans ?_)
 have:cM ks=aY bd W w x:=IsPatch.one ⟨gB q1.nd,fun x=>fM.trans (q1.last x)⟩ (cq hw hx)
 rw[this]
theorem gi(s:List Cell)(x:Cell):bA bd W w (s++[x])=if Least bd W w x x then bA bd W w s++[x] else bA bd W w s:=by
 unfold bA
 rw[List.filter_append]
 by_cases h:Least bd W w x x
 ·rw[if_pos h,List.filter_cons_of_pos (by rw[decide_eq_true_eq];exact h),List.filter_nil]
 ·rw[if_neg h,List.filter_cons_of_neg (by rw[decide_eq_true_eq];exact h),List.filter_nil,List.append_nil]
theorem Di(hg:Brd bd W)(hs:bd.length*W<64)(hw:Ways w){L:Cell→Cell}(hL:∀x,On bd.length W x→Least bd W w x (L x)){s r ks:List Cell}{x:Cell}(e:s++x::r=ay bd.length W)(h:Seen bd W w s ks):
 ∃ks',Seen bd W w (s++[x]) ks'∧MT (C7 bd W w s ks (fz (cD x)) none)=M.ret (.nx (C7 bd W w (s++[x]) ks' none none)):=by
 have hx:On bd.length W x:=aH.mp (by rw[←e];simp)
 have Ba:=eX bd.length W
 rw[←e] at Ba
 have H_:∀y∈s,On bd.length W y:=fun y hy=>aH.mp (by rw[←e];simp[hy])
 have LV:∀y∈r,On bd.length W y:=fun y hy=>aH.mp (by rw[←e];simp[hy])
 have DG:∀y∈s,rank W y<rank W x:=fun y hy=>(fE (H_ y hy) hx).mp ((List.pairwise_append.mp Ba).2.2 y hy x (List.mem_cons_self ..))
 have Gf:∀y∈r,rank W x<rank W y:=fun y hy=>(fE hx (LV y hy)).mp ((List.pairwise_cons.mp (List.pairwise_append.mp Ba).2.1).1 y hy)
 have OM:ks.length≤64:=by have:=mD (bd:=bd) (W:=W) h.nd h.on;omega
 have Ad:s.length<64:=by
  have:=congrArg List.length e
  rw[cF,List.length_append,List.length_cons] at this
  omega
 have ht:FL (cY (d2 (pw true) (dV 4) (dV 3))) (C7 bd W w s ks (fz (cD x)) none)=M.ret (!decide (x∈ks)):=
  FN (ek ((aL (x:=cD x) (y:= .dct (ks.map keyOf) (aI ks)) rfl rfl).trans (xU (neg:=true) (by simp[aI]))))
 by_cases hl:Least bd W w x x
 ·have L5:x∉ks:=fun z=>by
   obtain⟨m,hm,hc⟩:=(h.mem x).mp z
   unfold bA at hm
   rw[List.mem_filter,decide_eq_true_eq] at hm
   have h1:=DG m hm.1
   have h2:=hl.2 m (hc.symm hw (H_ m hm.1))
   omega
  rw[decide_eq_false L5] at ht
  have hP:=cq hw hx (bd:=bd) (W:=W)
  have Gd:∀y∈aY bd W w x,On bd.length W y:=fun y hy=>((hP.mem y).mp hy).on hw hx
  have HZ:(aY bd W w x).length≤64:=by have:=mD (bd:=bd) (W:=W) hP.rise.nodup Gd;omega
  have KA:(yE bd W w s).length<lim:=by
   unfold yE
   rw[List.length_map,eA]
   have:=List.length_filter_le (fun x=>decide (Least bd W w x x)) s
   unfold bA
   omega
  refine⟨(bz (aY bd W w x)).foldl bE ks,⟨ue h.nd,fun y hy=>?_,fun y=>?_⟩,?_⟩
  ·rcases((lC (bz (aY bd W w x)) ks).2.1 y).mp hy with q | q
   ·exact h.on y q
   ·exact Gd y (kI.mp q)
  ·rw[(lC (bz (aY bd W w x)) ks).2.1 y,kI,h.mem y,gi,if_pos hl,hP.mem y]
   constructor
   ·rintro(⟨m,hm,hc⟩ | hc)
    ·exact⟨m,List.mem_append.mpr (.inl hm),hc⟩
    ·exact⟨x,by simp,hc⟩
   ·rintro⟨m,hm,hc⟩
    rcases List.mem_append.mp hm with hm | hm
    ·exact .inl ⟨m,hm,hc⟩
    ·rw[List.mem_singleton.mp hm] at hc;exact .inr hc
  ·have ef:yE bd W w (s++[x])=yE bd W w s++[cL (aY bd W w x)]:=by
    unfold yE
    rw[gi,if_pos hl,List.map_append]
    rfl
   refine(bB (ρ':=[fz (brd bd),fz (.int (w:Int)),some (.ow (.lst (yE bd W w s++[cL (aY bd W w x)]))),some (.ow (.dct (((bz (aY bd W w x)).foldl bE ks).map keyOf) (aI ((bz (aY bd W w x)).foldl bE ks)))),fz (cD x),fz (cL (aY bd W w x))]) (ez ht (aj (ρ':=C7 bd W w s ks (fz (cD x)) (fz (cL (aY bd W w x)))) ((aM (vp hg hs hw hx rfl rfl rfl)).trans rfl) (aj (ρ':=[fz (brd bd),fz (.int (w:Int)),some (.ow (.lst (yE bd W w s++[cL (aY bd W w x)]))),some (.ow (.dct (ks.map keyOf) (aI ks))),fz (cD x),fz (cL (aY bd W w x))]) ?_ ?_)))).trans ?_
   ·show (if (yE bd W w s).length<lim then M.ret (Out.nx [fz (brd bd),fz (.int (w:Int)),some (.ow (.lst (yE bd W w s++[cL (aY bd W w x)]))),some (.ow (.dct (ks.map keyOf) (aI ks))),fz (cD x),fz (cL (aY bd W w x))]) else M.stuck)=_
    rw[if_pos KA]
   ·exact(C0 (ks:=ks) (l:=aY bd W w x) rfl ((ak (ds:=[cL (aY bd W w x)]) rfl rfl).trans (zh (by omega))) (by omega) (fun _=>DD hg.r8 hg.w8 (Bu _) fun y hy=>Gd y (kI.mp hy))).trans rfl
   ·unfold C7
    rw[ef]
    rfl
 ·have hm:=hL x hx
  have gN:L x≠x:=fun z=>hl (by rw[z] at hm;exact hm)
  have d5:rank W (L x)<rank W x:=by
   have h1:=hm.2 x Cn.refl
   have h2:rank W (L x)≠rank W x:=fun z=>gN (u7 (hm.on hw hx) hx z)
   omega
  have OT:L x∈s:=by
   have:L x∈s++x::r:=by rw[e];exact aH.mpr (hm.on hw hx)
   rcases List.mem_append.mp this with q | q
   ·exact q
   ·rcases List.mem_cons.mp q with q | q
    ·exact absurd q gN
    ·have:=Gf _ q;omega
  have L5:x∈ks:=(h.mem x).mpr ⟨L x,by unfold bA;rw[List.mem_filter,decide_eq_true_eq];exact⟨OT,hm.self hw hx⟩,hm.1.symm hw hx⟩
  rw[decide_eq_true L5] at ht
  refine⟨ks,⟨h.nd,h.on,fun y=>by rw[gi,if_neg hl];exact h.mem y⟩,?_⟩
  have ef:yE bd W w (s++[x])=yE bd W w s:=by
   unfold yE
   rw[gi,if_neg hl]
  refine(bB (cI ht rfl)).trans ?_
  unfold C7
  rw[ef]
  rfl
theorem xu(hg:Brd bd W)(hs:bd.length*W<64)(hw:Ways w){L:Cell→Cell}(hL:∀x,On bd.length W x→Least bd W w x (L x)):∀(r s ks:List Cell),s++r=ay bd.length W→Seen bd W w s ks→
 ∃ks',forL (putN 4) MT (r.map cD) (C7 bd W w s ks none none)=M.ret (.nx (C7 bd W w (ay bd.length W) ks' none none))
 |[],s,ks,e,h=>by
  rw[List.append_nil] at e
  exact⟨ks,by rw[e];rfl⟩
 |x::r,s,ks,e,h=>by
  obtain⟨Mc,h1,e1⟩:=Di hg hs hw hL e h
  obtain⟨Md,e2⟩:=xu hg hs hw hL r (s++[x]) Mc (by rw[List.append_assoc];exact e) h1
  exact⟨Md,(cP rfl e1).trans e2⟩
theorem de(hg:Brd bd W)(hs:bd.length*W<64)(hw:Ways w):aD [brd bd, .int (w:Int)]=M.ret (jU bd W w):=by
 obtain⟨L,hL⟩:=iz (bd:=bd) (W:=W) hw
 obtain⟨ks,e⟩:=xu hg hs hw hL (ay bd.length W) [] [] rfl ⟨List.nodup_nil,(fun y hy=>(by cases hy)),(fun y=>⟨fun z=>(by cases z),fun⟨m,hm,_⟩=>(by cases hm)⟩)⟩
 refine a_ (aj (ρ':=[fz (brd bd),fz (.int (w:Int)),some (.ow (.lst [])),none,none,none]) rfl (aj (ρ':=C7 bd W w [] [] none none) rfl (aj (ρ':=C7 bd W w (ay bd.length W) ks none none) (fe (fV (ds:=(ay bd.length W).map cD) (Ma ((ak (ds:=[brd bd]) rfl rfl).trans (pb hg))) e)) rfl)))
end
structure NumOk (R W:Nat) (Ps:List (List Cell)) (ks:List Cell) (f:Cell→Nat):Prop where
 nd:ks.Nodup
 on:∀y∈ks,On R W y
 num:∀y∈ks,∃P,Ps[f y]? =some P∧y∈P
def NJ:DS:=cH [4] (gH 1 (dV 4) (dV 2))
def FE(Ps:List (List Cell))(ks:List Cell)(f:Cell→Nat)(x2 x3 x4:Option Sl):aX:=[fz (.lst (Ps.map cL)),some (.ow (Dr ks fun y=> .int (f y:Int))),x2,x3,x4]
theorem yB{ks:List Cell}{x:Cell}:x∈bE ks x:=fC.mpr (.inr rfl)
theorem FF{R W:Nat}(hm:R*W≤64){Ps:List (List Cell)}{i:Nat}{P:List Cell}(hP:Ps[i]? =some P){x3:Option Sl}(mH:∀y∈P,On R W y):∀(l ks:List Cell) (f:Cell→Nat),(∀y∈l,y∈P)→NumOk R W Ps ks f→
 ∃ks' f',NumOk R W Ps ks' f'∧(∀y∈ks,y∈ks')∧(∀y∈l,y∈ks')∧forL (putN 4) NJ (l.map cD) (FE Ps ks f (fz (.int (i:Int))) x3 none)=M.ret (.nx (FE Ps ks' f' (fz (.int (i:Int))) x3 none))
 |[],ks,f,_,h=>⟨ks,f,h,fun y hy=>hy,(fun y hy=>(by cases hy)),rfl⟩
 |x::l,ks,f,hl,h=>by
  have hx:=hl x (List.mem_cons_self ..)
  have OM:ks.length≤64:=by
   have h1:=jM h.nd fun y hy=>aH.mpr (h.on y hy)
   rw[cF] at h1
   omega
  have h1:NumOk R W Ps (bE ks x) (fun y=>if y=x then i else f y):=by
   refine⟨(lC [x] ks).1 h.nd,fun y hy=>?_,fun y hy=>?_⟩
   ·rcases fC.mp hy with q | q
    ·exact h.on y q
    ·rw[q];exact mH x hx
   ·by_cases e:y=x
    ·refine⟨P,?_,by rw[e];exact hx⟩
     show Ps[if y=x then i else f y]? =_
     rw[if_pos e];exact hP
    ·rcases fC.mp hy with q | q
     ·obtain⟨Q,q1,q2⟩:=h.num y q
      refine⟨Q,?_,q2⟩
      show Ps[if y=x then i else f y]? =_
      rw[if_neg e];exact q1
     ·exact absurd q e
  obtain⟨ks',f',a1,a2,a3,a4⟩:=FF hm hP mH l (bE ks x) _ (fun y hy=>hl y (List.mem_cons_of_mem _ hy)) h1
  refine⟨ks',f',a1,fun y hy=>a2 y (fC.mpr (.inl hy)),fun y hy=>?_,?_⟩
  ·rcases List.mem_cons.mp hy with rfl | hy
   ·exact a2 _ yB
   ·exact a3 y hy
  ·refine(cP (ρ1:=FE Ps ks f (fz (.int (i:Int))) x3 (fz (cD x))) rfl ?_).trans a4
   refine(bB ((yp (ks:=ks) (f:=fun y=> .int (f y:Int)) (x:=x) (d:= .int (i:Int)) rfl rfl rfl (by rw[eA];omega)).trans rfl)).trans ?_
   have ef:eF (fun y=>D.int (f y:Int)) x (.int (i:Int))=fun y=>D.int ((if y=x then i else f y:Nat):Int):=by
    funext y
    unfold eF
    by_cases e:y=x
    ·rw[if_pos e,if_pos e]
    ·rw[if_neg e,if_neg e]
   show M.ret (Out.nx [fz (.lst (Ps.map cL)),some (.ow (Dr (bE ks x) (eF (fun y=>D.int (f y:Int)) x (.int (i:Int))))),fz (.int (i:Int)),x3,none])=_
   rw[ef]
   rfl
def Kq(q:Nat×List Cell):D:= .tup [.int (q.1:Int),cL q.2]
theorem Bx{R W:Nat}(hm:R*W≤64){Ps:List (List Cell)}(mH:∀P∈Ps,∀y∈P,On R W y):∀(qs:List (Nat×List Cell)) (ks:List Cell) (f:Cell→Nat),(∀q∈qs,Ps[q.1]? =some q.2)→NumOk R W Ps ks f→
 ∃ks' f',NumOk R W Ps ks' f'∧(∀y∈ks,y∈ks')∧(∀q∈qs,∀y∈q.2,y∈ks')∧forL (qQ [2,3]) (cH [2,3,4] (dZ (putN 4) (eM (dV 3)) NJ)) (qs.map Kq) (FE Ps ks f none none none)=M.ret (.nx (FE Ps ks' f' none none none))
 |[],ks,f,_,h=>⟨ks,f,h,fun y hy=>hy,(fun q hq=>(by cases hq)),rfl⟩
 |q::qs,ks,f,hq,h=>by
  have hP:=hq q (List.mem_cons_self ..)
  obtain⟨Mc,f1,a1,a2,a3,a4⟩:=FF hm hP (x3:=fz (cL q.2)) (mH q.2 (List.mem_of_getElem? hP)) q.2 ks f (fun y hy=>hy) h
  obtain⟨Md,f2,b1,b2,b3,b4⟩:=Bx hm mH qs Mc f1 (fun q' Ji=>hq q' (List.mem_cons_of_mem _ Ji)) a1
  refine⟨Md,f2,b1,fun y hy=>b2 y (a2 y hy),fun q' Ji y hy=>?_,?_⟩
  ·rcases List.mem_cons.mp Ji with rfl | Ji
   ·exact b2 y (a3 y hy)
   ·exact b3 q' Ji y hy
  ·exact(cP (ρ1:=FE Ps ks f (fz (.int (q.1:Int))) (fz (cL q.2)) none) rfl ((bB (fV (ds:=q.2.map cD) (ND rfl) a4)).trans rfl)).trans b4
theorem zp(Ps:List (List Cell)):(Ps.map cL).mapIdx (fun i d=>D.tup [.int (i:Int),d])=(Ps.zipIdx.map fun q:List Cell×Nat=>(q.2,q.1)).map Kq:=by
 apply List.ext_getElem?
 intro i
 simp only[List.getElem?_mapIdx,List.getElem?_map,List.getElem?_zipIdx,Option.map_map,Nat.zero_add]
 cases Ps[i]? <;>simp[Kq]
theorem nV{R W:Nat}(hm:R*W≤64){Ps:List (List Cell)}(mH:∀P∈Ps,∀y∈P,On R W y):∃ks f,NumOk R W Ps ks f∧(∀P∈Ps,∀y∈P,y∈ks)∧b9 [.lst (Ps.map cL)]=M.ret (p5 ks fun y=> .int (f y:Int)):=by
 have hq:∀q∈Ps.zipIdx.map (fun q:List Cell×Nat=>(q.2,q.1)),Ps[q.1]? =some q.2:=fun q hq=>by
  obtain⟨⟨P,i⟩,h1,rfl⟩:=List.mem_map.mp hq
  exact List.mem_zipIdx_iff_getElem?.mp h1
 obtain⟨ks,f,a1,a2,a3,a4⟩:=Bx hm mH (Ps.zipIdx.map fun q:List Cell×Nat=>(q.2,q.1)) [] (fun _=>0) hq ⟨List.nodup_nil,(fun y hy=>(by cases hy)),(fun y hy=>(by cases hy))⟩
 refine⟨ks,f,a1,fun P hP y hy=>?_,?_⟩
 ·obtain⟨i,hi,rfl⟩:=List.getElem_of_mem hP
  refine a3 (i,Ps[i]) (List.mem_map.mpr ⟨(Ps[i],i),List.mem_zipIdx_iff_getElem?.mpr (by rw[List.getElem?_eq_getElem hi]),rfl⟩) y hy
 ·refine a_ (aj (ρ':=FE Ps [] (fun _=>0) none none none) rfl (aj (ρ':=FE Ps ks f none none none) (fe (fV (ds:=(Ps.zipIdx.map fun q:List Cell×Nat=>(q.2,q.1)).map Kq) ?_ a4)) rfl))
  show M.ret ((Ps.map cL).mapIdx fun i d=>D.tup [.int (i:Int),d])=_
  rw[zp]
section
open Classical
variable{bd:List Str}{W w:Nat}
noncomputable def ax(bd:List Str)(W w:Nat):List (List Cell):=(bA bd W w (ay bd.length W)).map (aY bd W w)
theorem gk:jU bd W w= .lst ((ax bd W w).map cL):=by
 unfold jU ax
 rw[List.map_map]
 rfl
theorem c7{m:Cell}(h:m∈bA bd W w (ay bd.length W)):On bd.length W m:=by
 unfold bA at h
 exact aH.mp (List.mem_filter.mp h).1
theorem qK(hw:Ways w):∀P∈ax bd W w,∀y∈P,On bd.length W y:=fun P hP y hy=>by
 unfold ax at hP
 obtain⟨m,hm,rfl⟩:=List.mem_map.mp hP
 exact(((cq hw (c7 hm)).mem y).mp hy).on hw (c7 hm)
theorem ot(hg:Brd bd W)(hw:Ways w){x:Cell}(hx:On bd.length W x):∃P∈ax bd W w,x∈P:=by
 obtain⟨L,hL⟩:=iz (bd:=bd) (W:=W) hw
 have hm:=hL x hx
 have DK:=hm.on hw hx
 refine⟨aY bd W w (L x),List.mem_map.mpr ⟨L x,?_,rfl⟩,((cq hw DK).mem x).mpr (hm.1.symm hw hx)⟩
 unfold bA
 rw[List.mem_filter,decide_eq_true_eq]
 exact⟨aH.mpr DK,hm.self hw hx⟩
theorem nG:(ax bd W w).length≤bd.length*W:=by
 unfold ax bA
 rw[List.length_map,←cF bd.length W]
 exact List.length_filter_le ..
theorem fi(hg:Brd bd W)(hs:bd.length*W<64)(hw:Ways w):bL [brd bd, .int (w:Int)]=M.ret (.lst ((ax bd W w).map cL)):=by
 rw[←gk]
 exact a_ (aj (br ((ak (ds:=[brd bd]) rfl rfl).trans hg.nb)) (aj (br ((ak (ds:=[.int (w:Int)]) rfl rfl).trans hw.nw)) (aE ((ak (ds:=[brd bd, .int (w:Int)]) rfl rfl).trans (de hg hs hw)))))
theorem rT(hg:Brd bd W)(hs:bd.length*W<64)(hw:Ways w):bG [brd bd, .int (w:Int)]=M.ret (.int ((ax bd W w).length:Int)):=by
 refine a_ (aj (br ((ak (ds:=[brd bd]) rfl rfl).trans hg.nb)) (aj (br ((ak (ds:=[.int (w:Int)]) rfl rfl).trans hw.nw)) (aE ((cu (xs:=[jU bd W w]) (aJ ((ak (ds:=[brd bd, .int (w:Int)]) rfl rfl).trans (de hg hs hw)) rfl)).trans ?_))))
 rw[gk]
 show M.ret (D.int (((ax bd W w).map cL).length:Int))=_
 rw[List.length_map]
end
end K1
namespace K1
open PySem L2 L3 HT
abbrev PQ:List Nat:=[97,98,99,100,101,102]
theorem xx{bd:List Str}{i j:Nat}(hi:i<bd.length)(hj:j<bd[i].cps.toList.length):at2 bd i j=bd[i].cps.toList[j]:=by
 unfold at2 ch
 rw[List.getD_eq_getElem?_getD (l:=bd),List.getElem?_eq_getElem hi,Option.getD_some,List.getD_eq_getElem?_getD,List.getElem?_eq_getElem hj,Option.getD_some]
theorem Gb{α:Type}{l:List α}{i:Nat}{x:α}(h:l[i]? =some x)(hi:i<l.length):l[i]=x:=by
 rw[List.getElem?_eq_getElem hi] at h
 exact Option.some.inj h
def dO(bd:List Str):List Str:=bd.map sQ
theorem jF{bd:List Str}{W:Nat}(hg:Brd bd W):cE [brd bd]=M.ret (brd (dO bd)):=by
 refine a_ (aj (br ((ak (ds:=[brd bd]) rfl rfl).trans hg.nb)) (aE ?_))
 refine(cu (xs:=[.lst ((dO bd).map D.str)]) (aJ (dh (Pk (i:=0) rfl) (ys:=(dO bd).map D.str) ?_ (by unfold dO;rw[List.length_map,List.length_map,eA];have:=hg.r8;omega)) rfl)).trans rfl
 unfold dO
 rw[List.map_map]
 have:∀l:List Str,cZ (fF 0 cV (FY (dV 0) (d1 D7 (dC (.int 1)))) [fz (brd bd)]) (l.map D.str)=M.ret (l.map (D.str∘sQ)):=by
  intro l
  induction l with
  |nil=>rfl
  |cons r l ih=>rw[List.map_cons,dR,kl,ih];rfl
 exact this bd
theorem qw{bd:List Str}{W:Nat}(hG:Good bd W):Good (dO bd) W:=by
 refine⟨by unfold dO;rw[List.length_map];exact hG.r1,by unfold dO;rw[List.length_map];exact hG.r5,hG.w1,hG.w5,fun r hr=>?_⟩
 obtain⟨q,hq,rfl⟩:=List.mem_map.mp hr
 refine⟨by rw[oG];exact(hG.rows q hq).len,fun c hc=>(hG.rows q hq).let' c ?_⟩
 unfold sQ at hc
 simpa using hc
theorem yc{bd:List Str}{W i j:Nat}(hr:∀r∈bd,r.length=W)(hi:i<bd.length)(hj:j<W):at2 (dO bd) i j=at2 bd i (W - 1 - j):=by
 have hw:bd[i].cps.toList.length=W:=hr _ (List.getElem_mem hi)
 have h1:i<(dO bd).length:=by unfold dO;rw[List.length_map];exact hi
 have e0:(dO bd)[i]? =some (sQ bd[i]):=by
  unfold dO
  rw[List.getElem?_map,List.getElem?_eq_getElem hi]
  rfl
 have e1:(dO bd)[i].cps.toList=bd[i].cps.toList.reverse:=by
  rw[Gb e0 h1]
  unfold sQ
  simp
 have h2:j<(dO bd)[i].cps.toList.length:=by rw[e1,List.length_reverse,hw];exact hj
 rw[xx h1 h2,xx hi (by rw[hw];omega)]
 have:(dO bd)[i].cps.toList[j]? =bd[i].cps.toList[W - 1 - j]? :=by rw[e1,List.getElem?_reverse (by rw[hw];exact hj),hw]
 rw[List.getElem?_eq_getElem h2,List.getElem?_eq_getElem (by rw[hw];omega)] at this
 exact Option.some.inj this
end K1
namespace K1
open PySem L2 L3
def j4(P:Nat→Nat→Bool)(g:Nat→Nat→Cell)(c:Nat)(ks:List Cell)(t:Nat):List Cell:=if P c t then bE ks (g c t) else ks
def J_(P:Nat→Nat→Bool)(g:Nat→Nat→Cell)(V:Nat)(ks:List Cell)(c:Nat):List Cell:=(List.range V).foldl (j4 P g c) ks
def l8(P:Nat→Nat→Bool)(g:Nat→Nat→Cell)(V:Nat):List Cell:=(List.range V).foldl (J_ P g V) []
theorem Ak(ks:List Cell)(x:Cell):(bE ks x).length≤ks.length+1:=by
 unfold bE
 split<;>simp
theorem Dg{ks:List Cell}{x:Cell}(h:ks.Nodup):(bE ks x).Nodup:=ue (l:=[x]) h
theorem qV(P:Nat→Nat→Bool)(g:Nat→Nat→Cell)(c:Nat)(ks:List Cell)(t:Nat):(j4 P g c ks t).length≤ks.length+1:=by
 unfold j4
 split
 ·exact Ak ..
 ·omega
theorem m9{α:Type}{f:List Cell→α→List Cell}{n:Nat}(h:∀ks x,(f ks x).length≤ks.length+n):∀(l:List α) (ks:List Cell),(l.foldl f ks).length≤ks.length+l.length*n
 |[],ks=>by simp
 |x::l,ks=>by
  have:=m9 h l (f ks x)
  have:=h ks x
  rw[List.foldl_cons,List.length_cons,Nat.add_mul]
  omega
theorem yu(P:Nat→Nat→Bool)(g:Nat→Nat→Cell)(V:Nat)(ks:List Cell)(c:Nat):(J_ P g V ks c).length≤ks.length+V:=by
 have:=m9 (qV P g c) (List.range V) ks
 rw[List.length_range,Nat.mul_one] at this
 exact this
theorem rO{α:Type}{f:List Cell→α→List Cell}(h:∀ks x,ks.Nodup→(f ks x).Nodup):∀(l:List α) (ks:List Cell),ks.Nodup→(l.foldl f ks).Nodup
 |[],ks,hk=>hk
 |x::l,ks,hk=>rO h l (f ks x) (h ks x hk)
theorem sY(P:Nat→Nat→Bool)(g:Nat→Nat→Cell)(V:Nat):(l8 P g V).Nodup:=
 rO (fun ks c hk=>rO (fun ks t hk=>by unfold j4;split;exact Dg hk;exact hk) (List.range V) ks hk) (List.range V) [] List.nodup_nil
theorem vm(P:Nat→Nat→Bool)(g:Nat→Nat→Cell)(V:Nat):(l8 P g V).length≤V*V:=by
 have:=m9 (yu P g V) (List.range V) []
 rw[List.length_range,List.length_nil,Nat.zero_add] at this
 exact this
abbrev tr:Cell→D:=fun _=> .bl true
theorem E6(x:Cell):eF tr x (.bl true)=tr:=by
 funext y
 unfold eF
 split<;>rfl
theorem z4{po pi:D→aX→Option aX}{B:DS}{eo ei:Nat→D}{mk:List Cell→Option Sl→Option Sl→aX}{P:Nat→Nat→Bool}{g:Nat→Nat→Cell}{V:Nat}(hV:V≤8){di:DA}{is:List Nat}
 (h1:∀c ks,po (eo c) (mk ks none none)=some (mk ks (fz (eo c)) none))(h2:∀c t ks,pi (ei t) (mk ks (fz (eo c)) none)=some (mk ks (fz (eo c)) (fz (ei t))))
 (h3:∀c t ks,c<V→t<V→ks.length<128→B (mk ks (fz (eo c)) (fz (ei t)))=M.ret (.nx (mk (j4 P g c ks t) (fz (eo c)) none)))
 (h4:∀c ks,c<V→di (mk ks (fz (eo c)) none)=M.ret ((List.range V).map ei))(h5:∀c ks,fgt is (mk ks (fz (eo c)) none)=mk ks none none):
 forL po (cH is (dZ pi di B)) ((List.range V).map eo) (mk [] none none)=M.ret (.nx (mk (l8 P g V) none none)):=by
 have key:∀(l:List Nat) (ks:List Cell),(∀c∈l,c<V)→ks.length+l.length*V≤64→forL po (cH is (dZ pi di B)) (l.map eo) (mk ks none none)=M.ret (.nx (mk (l.foldl (J_ P g V) ks) none none)):=by
  intro l
  induction l with
  |nil=>exact fun ks _ _=>rfl
  |cons c l ih=>
   intro ks hc hk
   have Nc:=hc c (List.mem_cons_self ..)
   rw[List.length_cons,Nat.add_mul] at hk
   have inner:∀(m:List Nat) (ks:List Cell),(∀t∈m,t<V)→ks.length+m.length≤128→forL pi B (m.map ei) (mk ks (fz (eo c)) none)=M.ret (.nx (mk (m.foldl (j4 P g c) ks) (fz (eo c)) none)):=by
    intro m
    induction m with
    |nil=>exact fun ks _ _=>rfl
    |cons t m Pj=>
     intro ks ht hm
     rw[List.length_cons] at hm
     have hs:=qV P g c ks t
     exact(cP (h2 c t ks) (h3 c t ks Nc (ht t (List.mem_cons_self ..)) (by omega))).trans (Pj _ (fun x hx=>ht x (List.mem_cons_of_mem _ hx)) (by omega))
   have e:=inner (List.range V) ks (fun t ht=>List.mem_range.mp ht) (by rw[List.length_range];omega)
   have hl:=yu P g V ks c
   refine(cP (h1 c ks) ((bB (fV (h4 c ks Nc) e)).trans (by rw[h5]))).trans ?_
   exact ih (J_ P g V ks c) (fun x hx=>hc x (List.mem_cons_of_mem _ hx)) (by omega)
 refine key (List.range V) [] (fun c hc=>List.mem_range.mp hc) ?_
 rw[List.length_range]
 have:=Nat.mul_le_mul hV hV
 simpa using this
section
open Classical
variable{bd:List Str}{W w:Nat}
end
def near(w c t:Nat):Bool:=decide (dw c t≤if w=8 then 1 else 0)
theorem zq{w:Nat}(hw:Ways w)(r c t:Nat):ck [cD (r,c),cD (0,t), .int (w:Int)]=M.ret (.bl (near w c t)):=by
 refine a_ (aE ((ak (ds:=[.tup [.int (-1), .int (c:Int)],cD (0,t), .int (w:Int)]) rfl rfl).trans ?_))
 refine a_ ?_
 refine aj (ρ':=[fz (.tup [.int (-1), .int (c:Int)]),fz (cD (0,t)),fz (.int (w:Int)),fz (.int 1),none]) ((aM (d:= .int 1) rfl).trans rfl) ?_
 refine aj (ρ':=[fz (.tup [.int (-1), .int (c:Int)]),fz (cD (0,t)),fz (.int (w:Int)),fz (.int 1),fz (.int (dw c t:Int))]) ((aM (d:= .int (dw c t:Int)) (rk c t)).trans rfl) ?_
 rcases hw with rfl | rfl
 ·refine dg (ez (ek rfl) (aE ?_))
  show M.ret (D.bl (((1:Int)+(dw c t:Int))==1))=M.ret (D.bl (decide (dw c t≤0)))
  congr 2
  by_cases h:dw c t≤0
  ·rw[decide_eq_true h]
   exact beq_iff_eq.mpr (by omega)
  ·rw[decide_eq_false h]
   exact beq_eq_false_iff_ne.mpr (by omega)
 ·refine aj (cI (ek rfl) rfl) (aE ?_)
  show M.ret (D.bl ((if (1:Int)<(dw c t:Int) then(dw c t:Int) else 1)==1))=M.ret (D.bl (decide (dw c t≤1)))
  congr 2
  by_cases h:dw c t≤1
  ·rw[decide_eq_true h,if_neg (by omega)]
   rfl
  ·rw[decide_eq_false h,if_pos (by omega)]
   exact beq_eq_false_iff_ne.mpr (by omega)
section
variable{a b:List Str}{V w:Nat}
def l9(a b:List Str)(w c t:Nat):Bool:=decide (lt a (a.length - 1,c)=lt b (0,t))&&near w c t
theorem B9{n:Nat}(h:1≤n):((n:Int) - 1)=((n - 1:Nat):Int):=by omega
theorem Cu{bd:List Str}{W:Nat}{c:Nat}(hg:Brd bd W)(hc:c<W):On bd.length W (bd.length - 1,c)∧On bd.length W (0,c):=⟨⟨by have:=hg.r1;show bd.length - 1<_;omega,hc⟩,⟨by have:=hg.r1;show 0<_;omega,hc⟩⟩
structure Nums (bd:List Str) (W w:Nat) (ks:List Cell) (f:Cell→Nat):Prop where
 val:(aD [brd bd, .int (w:Int)]>>=fun d=>b9 [d])=M.ret (p5 ks fun y=> .int (f y:Int))
 all:∀x,On bd.length W x→x∈ks
 num:∀x,On bd.length W x→∃P,(ax bd W w)[f x]? =some P∧x∈P
theorem yh{bd:List Str}{W:Nat}(hg:Brd bd W)(hs:bd.length*W<64)(hw:Ways w):∃ks f,Nums bd W w ks f:=by
 obtain⟨ks,f,h1,h2,h3⟩:=nV (R:=bd.length) (W:=W) (Nat.le_of_lt hs) (qK (bd:=bd) (W:=W) (w:=w) hw)
 have DC:∀x,On bd.length W x→x∈ks:=fun x hx=>by
  obtain⟨P,p1,p2⟩:=ot hg hw hx
  exact h2 P p1 x p2
 refine⟨ks,f,?_,DC,fun x hx=>h1.num x (DC x hx)⟩
 rw[de hg hs hw,aq,gk,h3]
def pR(a b:List Str)(w:Nat)(da db:D)(ks:List Cell)(x6 x7:Option Sl):aX:=[fz (brd a),fz (brd b),fz (.int (w:Int)),fz da,fz db,some (.ow (Dr ks tr)),x6,x7]
def pB:DS:=(cH [7] (gq (ph (cY (d2 kx (ah 2 aT (aC (dV 0) (aC (dV 6) aN))) (ah 2 aT (aC (dV 1) (aC (dV 7) aN))))) (bW (ah 3 ck (aC (dV 6) (aC (dV 7) (aC (dV 2) aN)))))) (gH 5 (dA dP (aC (d2 v9 (dV 3) (dV 6)) (aC (d2 v9 (dV 4) (dV 7)) aN))) (dC (.bl true))) cJ))
theorem tF(lD:Brd a V)(lF:Brd b V)(hw:Ways w)(h8:a.length+b.length≤8):a7 [brd a,brd b, .int (w:Int)]=M.ret .non:=by
 refine j3 (ρ:=[fz (brd a),fz (brd b),fz (.int (w:Int))]) ?_
 refine aj (br ((ak (ds:=[brd a]) rfl rfl).trans lD.nb)) (aj (br ((ak (ds:=[brd b]) rfl rfl).trans lF.nb)) (aj (br ((ak (ds:=[.int (w:Int)]) rfl rfl).trans hw.nw)) (br (d:= .non) ((ak (ds:=[brd a,brd b]) rfl rfl).trans ?_))))
 refine j3 (ρ:=[fz (brd a),fz (brd b)]) (aj (cI (b:=cJ) (ek ((aL (lD.len0 (i:=0) rfl) (lF.len0 (i:=1) rfl)).trans ((qB V V).trans (by simp)))) rfl) (cI (ek ((aL (x:= .int ((a.length:Int)+(b.length:Int))) (y:= .int 8) ((aL (rY (i:=0) rfl) (rY (i:=1) rfl)).trans rfl) rfl).trans ?_)) rfl))
 show M.ret (D.bl (decide ((8:Int)<(a.length:Int)+(b.length:Int))))=_
 rw[decide_eq_false (by omega)]
theorem CB(lD:Brd a V)(lF:Brd b V)(hw:Ways w)(h8:a.length+b.length≤8)(hV:V<8){ka kb:List Cell}{fa fb:Cell→Nat}(na:Nums a V w ka fa)(nb:Nums b V w kb fb):
 f_ [brd a,brd b, .int (w:Int)]=M.ret (cL (cM (l8 (l9 a b w) (fun c t=>(fa (a.length - 1,c),fb (0,t))) V))):=by
 refine a_ ?_
 refine aj (br ((ak (ds:=[brd a,brd b, .int (w:Int)]) rfl rfl).trans (tF lD lF hw h8))) ?_
 have ev:∀{i:Nat}{bd:List Str}{ks:List Cell}{f:Cell→Nat}{ρ:aX},Nums bd V w ks f→dV i ρ=M.ret (brd bd)→dV 2 ρ=M.ret (.int (w:Int))→ah 1 b9 (aC (ah 2 aD (aC (dV i) (aC (dV 2) aN))) aN) ρ=M.ret (p5 ks fun y=> .int (f y:Int)):=fun {i bd ks f ρ} n e1 e2=>by
  have v:=n.val
  cases q:aD [brd bd, .int (w:Int)] with
  |none=>rw[q] at v;cases v
  |some r=>
   cases r with
   |ex k=>rw[q] at v;cases v
   |ok d=>
    rw[q] at v
    exact(ak (ds:=[d]) (aJ ((ak (ds:=[brd bd, .int (w:Int)]) (aJ e1 (aJ e2 rfl)) rfl).trans q) rfl) rfl).trans v
 refine aj (ρ':=[fz (brd a),fz (brd b),fz (.int (w:Int)),fz (p5 ka fun y=> .int (fa y:Int)),none,none,none,none]) ((aM (ev na rfl rfl)).trans rfl) ?_
 refine aj (ρ':=[fz (brd a),fz (brd b),fz (.int (w:Int)),fz (p5 ka fun y=> .int (fa y:Int)),fz (p5 kb fun y=> .int (fb y:Int)),none,none,none]) ((aM (ev nb rfl rfl)).trans rfl) ?_
 refine aj (ρ':=pR a b w (p5 ka fun y=> .int (fa y:Int)) (p5 kb fun y=> .int (fb y:Int)) [] none none) rfl ?_
 have lp:=z4 (po:=putN 6) (pi:=putN 7) (B:=pB) (eo:=fun c=>cD (a.length - 1,c)) (ei:=fun t=>cD (0,t)) (mk:=pR a b w (p5 ka fun y=> .int (fa y:Int)) (p5 kb fun y=> .int (fb y:Int))) (P:=l9 a b w) (g:=fun c t=>(fa (a.length - 1,c),fb (0,t))) (V:=V) (by omega) (di:=eM (ah 2 aO (aC (dV 1) (aC (dC (.int 0)) aN)))) (is:=[6,7])
  (fun c ks=>rfl) (fun c t ks=>rfl) (fun c t ks hc ht hk=>?_) (fun c ks hc=>?_) (fun c ks=>rfl)
 ·refine aj (ρ':=pR a b w (p5 ka fun y=> .int (fa y:Int)) (p5 kb fun y=> .int (fb y:Int)) (l8 (l9 a b w) (fun c t=>(fa (a.length - 1,c),fb (0,t))) V) none none) (fe (fV ?_ lp)) ?_
  ·show (ah 2 aO (aC (dV 0) (aC (d2 kz (dA aU (aC (dV 0) aN)) (dC (.int 1))) aN)) _>>=lstM)=_
   have e:d2 kz (dA aU (aC (dV 0) aN)) (dC (.int 1)) (pR a b w (p5 ka fun y=> .int (fa y:Int)) (p5 kb fun y=> .int (fb y:Int)) [] none none)=M.ret (.int ((a.length - 1:Nat):Int)):=by
    refine(aL (rY (i:=0) (bd:=a) rfl) (y:= .int 1) rfl).trans ?_
    rw[A0,B9 lD.r1]
   refine(congrArg (· >>=lstM) ((ak (ds:=[brd a, .int ((a.length - 1:Nat):Int)]) (aJ rfl (aJ e rfl)) rfl).trans (dQ lD _))).trans ?_
   show M.ret ((dj V (a.length - 1)).map cD)=_
   rw[dj,List.map_map]
   rfl
  ·have hl:=vm (l9 a b w) (fun c t=>(fa (a.length - 1,c),fb (0,t))) V
   have:V*V≤7*7:=Nat.mul_le_mul (by omega) (by omega)
   exact aE ((cu (xs:=[p5 _ tr]) rfl).trans (vq (sY ..) (by omega)))
 ·obtain⟨o1,_⟩:=Cu lD hc
  obtain⟨_,o2⟩:=Cu lF ht
  have k1:=na.all _ o1
  have k2:=nb.all _ o2
  have K2:ph (cY (d2 kx (ah 2 aT (aC (dV 0) (aC (dV 6) aN))) (ah 2 aT (aC (dV 1) (aC (dV 7) aN))))) (bW (ah 3 ck (aC (dV 6) (aC (dV 7) (aC (dV 2) aN))))) (pR a b w (p5 ka fun y=> .int (fa y:Int)) (p5 kb fun y=> .int (fb y:Int)) ks (fz (cD (a.length - 1,c))) (fz (cD (0,t))))=M.ret (l9 a b w c t):=
   vX (ek ((aL ((ak (ds:=[brd a,cD (a.length - 1,c)]) rfl rfl).trans (c6 lD o1)) ((ak (ds:=[brd b,cD (0,t)]) rfl rfl).trans (c6 lF o2))).trans (Fh _ _))) (rG ((ak (ds:=[cD (a.length - 1,c),cD (0,t), .int (w:Int)]) rfl rfl).trans (zq hw _ _ _)))
  unfold j4
  cases hp:l9 a b w c t with
  |false=>
   rw[hp] at K2
   exact(bB (cI K2 rfl)).trans rfl
  |true=>
   rw[hp] at K2
   refine(bB (ez K2 (yp (ks:=ks) (f:=tr) (x:=(fa (a.length - 1,c),fb (0,t))) (d:= .bl true) rfl rfl ?_ (by rw[eA];omega)))).trans (by rw[E6];rfl)
   exact(cu (xs:=[.int (fa (a.length - 1,c):Int), .int (fb (0,t):Int)]) (aJ ((aL (x:=p5 ka fun y=> .int (fa y:Int)) (y:=cD (a.length - 1,c)) rfl rfl).trans (Bj k1)) (aJ ((aL (x:=p5 kb fun y=> .int (fb y:Int)) (y:=cD (0,t)) rfl rfl).trans (Bj k2)) rfl))).trans rfl
 ·show (ah 2 aO (aC (dV 1) (aC (dC (.int 0)) aN)) _>>=lstM)=_
  refine(congrArg (· >>=lstM) ((ak (ds:=[brd b, .int ((0:Nat):Int)]) rfl rfl).trans (dQ lF 0))).trans ?_
  show M.ret ((dj V 0).map cD)=_
  rw[dj,List.map_map]
  rfl
theorem Brd.app(lD:Brd a V)(lF:Brd b V)(h8:a.length+b.length≤8):Brd (a++b) V:=by
 refine⟨?_,?_,lD.w1,lD.w8,fun r hr=>?_⟩
 ·rw[List.length_append];have:=lD.r1;omega
 ·rw[List.length_append];omega
 ·rcases List.mem_append.mp hr with h | h
  ·exact lD.rows r h
  ·exact lF.rows r h
theorem rF(h8:a.length+b.length≤8):gE (brd a) (brd b)=M.ret (brd (a++b)):=by
 show (if (a.map D.str).length+(b.map D.str).length≤lim then M.ret (D.tup (a.map D.str++b.map D.str)) else M.stuck)=_
 rw[if_pos (by rw[eA,List.length_map,List.length_map];omega),←List.map_append]
theorem kK:∀l:List Int,nums (l.map D.int)=some l
 |[]=>rfl
 |x::r=>by
  show (nums (r.map D.int)).map _=_
  rw[kK r]
  rfl
noncomputable def gf(bd:List Str)(V w:Nat):List Int:=(ax bd V w).map fun P=>(P.length:Int)
theorem nH{bd:List Str}(hs:bd.length*V<64){δ:DE}{ρ:aX}(h:δ ρ=M.ret (.lst ((ax bd V w).map cL))):dA q_ (aC (bT 0 (eM δ) cV (dA aU (aC (dV 0) aN))) aN) ρ=M.ret (.lst ((dq (gf bd V w)).map D.int)):=by
 have hl:=nG (bd:=bd) (W:=V) (w:=w)
 have cm:bT 0 (eM δ) cV (dA aU (aC (dV 0) aN)) ρ=M.ret (.lst ((gf bd V w).map D.int)):=by
  refine dh (ds:=(ax bd V w).map cL) ?_ ?_ (by unfold gf;rw[List.length_map,List.length_map,eA];omega)
  ·show (δ ρ>>=lstM)=_
   rw[h]
   rfl
  ·unfold gf
   rw[List.map_map]
   refine mW cL _ _ fun P hP=>?_
   rw[kl]
   show (M.ret (D.int ((P.map cD).length:Int))>>=fun y=>M.ret (some y))=_
   rw[List.length_map]
   rfl
 refine(cu (xs:=[.lst ((gf bd V w).map D.int)]) (aJ cm rfl)).trans ?_
 show (match nums ((gf bd V w).map D.int) with | some ns=>if ns.length<64 then M.ret (D.lst ((dq ns).map D.int)) else M.stuck | none=>M.stuck)=_
 rw[kK]
 exact if_pos (by unfold gf;rw[List.length_map];omega)
theorem xt(lD:Brd a V)(lF:Brd b V)(hw:Ways w)(h8:a.length+b.length≤8)(hs:(a++b).length*V<64){ρ:aX}(h0:dV 0 ρ=M.ret (brd a))(h1:dV 1 ρ=M.ret (brd b))(h2:dV 2 ρ=M.ret (.int (w:Int))):
 ah 2 aD (aC (d2 gE (dV 0) (dV 1)) (aC (dV 2) aN)) ρ=M.ret (.lst ((ax (a++b) V w).map cL)):=
 (ak (ds:=[brd (a++b), .int (w:Int)]) (aJ ((aL h0 h1).trans (rF h8)) (aJ h2 rfl)) rfl).trans ((de (lD.app lF h8) hs hw).trans (by rw[gk]))
theorem xP(lD:Brd a V)(lF:Brd b V)(hw:Ways w)(h8:a.length+b.length≤8)(hs:(a++b).length*V<64):aP [brd a,brd b, .int (w:Int)]=M.ret (.int ((ax (a++b) V w).length:Int)):=by
 refine a_ (aj (br ((ak (ds:=[brd a,brd b, .int (w:Int)]) rfl rfl).trans (tF lD lF hw h8))) (aE ?_))
 refine(cu (xs:=[.lst ((ax (a++b) V w).map cL)]) (aJ (xt lD lF hw h8 hs rfl rfl rfl) rfl)).trans ?_
 show M.ret (D.int (((ax (a++b) V w).map cL).length:Int))=_
 rw[List.length_map]
theorem qX(lD:Brd a V)(lF:Brd b V)(hw:Ways w)(h8:a.length+b.length≤8)(hs:(a++b).length*V<64):bb [brd a,brd b, .int (w:Int)]=M.ret (.lst ((dq (gf (a++b) V w)).map D.int)):=
 a_ (aj (br ((ak (ds:=[brd a,brd b, .int (w:Int)]) rfl rfl).trans (tF lD lF hw h8))) (aE (nH hs (xt lD lF hw h8 hs rfl rfl rfl))))
end
end K1
namespace K1
open PySem PySem.Spec L2 L3
open PyProof.Rows hiding St
section
open Classical
variable{bd:List Str}{W w:Nat}
theorem yb:(bA bd W w (ay bd.length W)).Nodup:=by
 unfold bA
 exact(RiseC.nodup (eX _ _)).filter _
theorem jD{l:List Cell}{m:Cell}:m∈bA bd W w l↔m∈l∧Least bd W w m m:=by
 unfold bA
 rw[List.mem_filter,decide_eq_true_eq]
theorem gP(hw:Ways w){m x:Cell}(hm:m∈bA bd W w (ay bd.length W))(hx:x∈aY bd W w m):Least bd W w x m:=
 (jD.mp hm).2.move hw (c7 hm) (((cq hw (c7 hm)).mem x).mp hx)
theorem iD{i:Nat}{P:List Cell}(h:(ax bd W w)[i]? =some P):∃m,(bA bd W w (ay bd.length W))[i]? =some m∧P=aY bd W w m:=by
 unfold ax at h
 rw[List.getElem?_map] at h
 cases q:(bA bd W w (ay bd.length W))[i]? with
 |none=>rw[q] at h;cases h
 |some m=>rw[q] at h;cases h;exact⟨m,rfl,rfl⟩
theorem uz{i j:Nat}{m:Cell}(h:(bA bd W w (ay bd.length W))[i]? =some m)(h2:(bA bd W w (ay bd.length W))[j]? =some m):i=j:=
 (List.getElem?_inj (List.getElem?_eq_some_iff.mp h).1 yb).mp (h.trans h2.symm)
theorem r6{α:Type}{l:List α}{i:Nat}{x:α}(h:l[i]? =some x):x∈l:=List.mem_of_getElem? h
theorem wM(hw:Ways w){m:Cell}(hm:m∈bA bd W w (ay bd.length W)):∃r,aY bd W w m=m::r:=by
 have ho:=c7 hm
 have hP:=cq hw ho
 cases hp:aY bd W w m with
 |nil=>have:=(hP.mem m).mpr Cn.refl;rw[hp] at this;cases this
 |cons a r=>
  refine⟨r,?_⟩
  rw[hp] at hP
  by_cases e:a=m
  ·rw[e]
  ·have wa:m∈a::r:=(hP.mem m).mpr Cn.refl
   have wa:m∈r:=by
    cases wa with
    |head=>exact absurd rfl e
    |tail _ q=>exact q
   have hc:=(hP.mem a).mp (List.mem_cons_self ..)
   have h1:=(fE (hc.on hw ho) ho).mp ((List.pairwise_cons.mp hP.rise).1 m wa)
   have:=(jD.mp hm).2.2 a hc
   omega
theorem xM{f:Cell→List Cell}:∀l:List Cell,l.Nodup→(∀a∈l,(f a).Nodup)→(∀a∈l,∀b∈l,∀x,x∈f a→x∈f b→a=b)→(l.flatMap f).Nodup
 |[],_,_,_=>List.nodup_nil
 |a::l,h1,h2,h3=>by
  rw[List.flatMap_cons,List.nodup_append]
  obtain⟨g1,g2⟩:=List.nodup_cons.mp h1
  refine⟨h2 a (List.mem_cons_self ..),xM l g2 (fun b hb=>h2 b (List.mem_cons_of_mem _ hb)) fun b hb c hc=>h3 b (List.mem_cons_of_mem _ hb) c (List.mem_cons_of_mem _ hc),fun x hx y hy e=>?_⟩
  subst e
  obtain⟨b,hb,q⟩:=List.mem_flatMap.mp hy
  have:=h3 a (List.mem_cons_self ..) b (List.mem_cons_of_mem _ hb) x hx q
  subst this
  exact g1 hb
theorem v7:(ax bd W w).flatten=(bA bd W w (ay bd.length W)).flatMap (aY bd W w):=by
 unfold ax
 rw[List.flatMap_def]
theorem C3(hw:Ways w):(ax bd W w).flatten.Nodup:=by
 rw[v7]
 refine xM _ yb (fun a ha=>RiseC.nodup (cq hw (c7 ha)).rise) fun a ha b hb x hx hy=>?_
 exact(gP hw ha hx).one hw ((((cq hw (c7 ha)).mem x).mp hx).on hw (c7 ha)) (gP hw hb hy)
theorem C4(hw:Ways w){x:Cell}(h:x∈(ax bd W w).flatten):On bd.length W x:=by
 obtain⟨P,hP,hx⟩:=List.mem_flatten.mp h
 exact qK hw P hP x hx
theorem z6(hg:Brd bd W)(hw:Ways w):cM (ax bd W w).flatten=ay bd.length W:=
 kZ (gB (C3 hw)) (eX _ _) fun x=>by
  rw[fM,aH]
  exact⟨C4 hw,fun hx=>let ⟨P,h1,h2⟩:=ot hg hw hx;List.mem_flatten.mpr ⟨P,h1,h2⟩⟩
variable{c:Nat}
theorem mU(R W:Nat):ay (R+1) W=ay R W++dj W R:=by
 unfold ay
 rw[List.range_succ,List.flatMap_append]
 simp
end
end K1
namespace K1
open PySem L2 L3
theorem yC{ks:List Cell}{x y:Cell}:y∈bE ks x↔y∈ks∨y=x:=fC
theorem m_{α:Type}{f:List Cell→α→List Cell}{Q:α→Cell→Prop}(h:∀ks x y,y∈f ks x↔y∈ks∨Q x y):∀(l:List α) (ks:List Cell) (y:Cell),y∈l.foldl f ks↔y∈ks∨∃x∈l,Q x y
 |[],ks,y=>by simp
 |x::l,ks,y=>by
  rw[List.foldl_cons,m_ h l (f ks x) y,h]
  constructor
  ·rintro((q | q) | ⟨z,hz,q⟩)
   ·exact .inl q
   ·exact .inr ⟨x,List.mem_cons_self ..,q⟩
   ·exact .inr ⟨z,List.mem_cons_of_mem _ hz,q⟩
  ·rintro(q | ⟨z,hz,q⟩)
   ·exact .inl (.inl q)
   ·rcases List.mem_cons.mp hz with rfl | hz
    ·exact .inl (.inr q)
    ·exact .inr ⟨z,hz,q⟩
theorem zr{P:Nat→Nat→Bool}{g:Nat→Nat→Cell}{V:Nat}{k:Cell}:k∈l8 P g V↔∃c t,c<V∧t<V∧P c t=true∧k=g c t:=by
 have h1:∀c ks t y,y∈j4 P g c ks t↔y∈ks∨(P c t=true∧y=g c t):=fun c ks t y=>by
  unfold j4
  split
  ·rename_i q
   rw[yC]
   simp[q]
  ·rename_i q
   simp[q]
 have h2:∀ks c y,y∈J_ P g V ks c↔y∈ks∨∃t∈List.range V,P c t=true∧y=g c t:=fun ks c y=>m_ (h1 c) (List.range V) ks y
 unfold l8
 rw[m_ h2]
 simp only[List.not_mem_nil,false_or,List.mem_range]
 constructor
 ·rintro⟨c,hc,t,ht,h⟩
  exact⟨c,t,hc,ht,h⟩
 ·rintro⟨c,t,hc,ht,h⟩
  exact⟨c,hc,t,ht,h⟩
theorem wc{α:Type}{R:α→Cell→Prop}:∀(l:List α) (K:List Cell),l.Nodup→(∀m∈l,∃k∈K,R m k)→(∀m∈l,∀n∈l,∀k,R m k→R n k→m=n)→l.length≤K.length
 |[],_,_,_,_=>Nat.zero_le _
 |m::l,K,hn,h,hi=>by
  obtain⟨g1,g2⟩:=List.nodup_cons.mp hn
  obtain⟨k,hk,hr⟩:=h m (List.mem_cons_self ..)
  have:=wc l (K.erase k) g2 (fun n y9=>by
   obtain⟨k',vL,Fy⟩:=h n (List.mem_cons_of_mem _ y9)
   refine⟨k',(List.mem_erase_of_ne fun e=>?_).mpr vL,Fy⟩
   subst e
   rw[hi m (List.mem_cons_self ..) n (List.mem_cons_of_mem _ y9) k' hr Fy] at g1
   exact g1 y9) fun m hm n y9=>hi m (List.mem_cons_of_mem _ hm) n (List.mem_cons_of_mem _ y9)
  rw[List.length_erase_of_mem hk] at this
  have:=List.length_pos_of_mem hk
  rw[List.length_cons]
  omega
theorem EK{α β:Type}{E:α→Prop}{E':β→Prop}{g:α→Cell}{g':β→Cell}{K K':List Cell}(hn:K.Nodup)(hK:∀k∈K,∃p,E p∧k=g p)(Oe:∀p,E' p→g' p∈K')(θ:α→β)(hθ:∀p,E p→E' (θ p))(hi:∀p q,E p→E q→g' (θ p)=g' (θ q)→g p=g q):K.length≤K'.length:=
 wc (R:=fun k k'=>∃p,E p∧k=g p∧k'=g' (θ p)) K K' hn (fun k hk=>by
  obtain⟨p,p1,p2⟩:=hK k hk
  exact⟨_,Oe _ (hθ p p1),p,p1,p2,rfl⟩) fun m _ n _ k ⟨p,p1,p2,p3⟩ ⟨q,q1,q2,q3⟩=>by
  rw[p2,q2]
  exact hi p q p1 q1 (p3.symm.trans q3)
section
variable{bd:List Str}{W w:Nat}
theorem iC(hw:Ways w){ks:List Cell}{f:Cell→Nat}(n:Nums bd W w ks f){x y:Cell}(hx:On bd.length W x)(hy:On bd.length W y):f x=f y↔Cn bd W w x y:=by
 obtain⟨P,p1,p2⟩:=n.num x hx
 obtain⟨Q,q1,q2⟩:=n.num y hy
 obtain⟨m,m1,rfl⟩:=iD p1
 obtain⟨k,k1,rfl⟩:=iD q1
 have hm:=r6 m1
 have hk:=r6 k1
 have lx:=gP hw hm p2
 have ly:=gP hw hk q2
 constructor
 ·intro e
  rw[e,k1] at m1
  cases m1
  exact lx.1.trans (ly.1.symm hw hy)
 ·intro c
  have:=(lx.move hw hx c).one hw hy ly
  subst this
  exact uz m1 k1
theorem G1{ks:List Cell}{f:Cell→Nat}(n:Nums bd W w ks f)(hw:Ways w){x:Cell}(hx:On bd.length W x):∃m,(bA bd W w (ay bd.length W))[f x]? =some m∧Least bd W w x m:=by
 obtain⟨P,p1,p2⟩:=n.num x hx
 obtain⟨m,m1,rfl⟩:=iD p1
 exact⟨m,m1,gP hw (r6 m1) p2⟩
structure Iso (a a':List Str) (W W' w:Nat) (φ:Cell→Cell):Prop where
 on:∀x,On a.length W x→On a'.length W' (φ x)
 nx:∀x y,On a.length W x→On a.length W y→gG w x y=true→gG w (φ x) (φ y)=true
 lt:∀x,On a.length W x→lt a' (φ x)=lt a x
theorem Iso.rb{a a':List Str}{W':Nat}{φ:Cell→Cell}(h:Iso a a' W W' w φ)(hw:Ways w){x:Cell}(hx:On a.length W x):∀{j:Nat}{y:Cell},Rb (a8 a W w) x j y→Rb (a8 a' W' w) (φ x) j (φ y)
 |0,y,q=>congrArg φ q
 |j+1,y,q=>q.elim (fun q=> .inl (h.rb hw hx q)) fun⟨z,q1,q2⟩=>by
  have hz:=u9 hw hx q1
  have hy:=(bU hw).mp q2
  exact .inr ⟨φ z,h.rb hw hx q1,(bU hw).mpr ⟨h.on y hy.1,h.nx z y hz hy.1 hy.2.1,by rw[h.lt y hy.1,h.lt z hz,hy.2.2]⟩⟩
theorem Iso.cn{a a':List Str}{W':Nat}{φ:Cell→Cell}(h:Iso a a' W W' w φ)(hw:Ways w){x y:Cell}(hx:On a.length W x)(q:Cn a W w x y):Cn a' W' w (φ x) (φ y):=let ⟨j,q⟩:=q;⟨j,h.rb hw hx q⟩
end
section
open Classical
variable{a b:List Str}{V w:Nat}
theorem kH{x:Cell}(h:x.1<a.length):lt (a++b) x=lt a x:=by
 unfold lt at2
 rw[List.getD_eq_getElem?_getD,List.getElem?_append_left h,←List.getD_eq_getElem?_getD]
def dn(n:Nat)(x:Cell):Cell:=(n+x.1,x.2)
theorem qt{x:Cell}:lt (a++b) (dn a.length x)=lt b x:=by
 unfold lt at2 dn
 rw[List.getD_eq_getElem?_getD,List.getElem?_append_right (Nat.le_add_right ..),Nat.add_sub_cancel_left,←List.getD_eq_getElem?_getD]
theorem rX:Iso a (a++b) V V w id where
 on:=fun x h=>⟨by rw[List.length_append];exact Nat.lt_of_lt_of_le h.1 (Nat.le_add_right ..),h.2⟩
 nx:=fun _ _ _ _ h=>h
 lt:=fun x h=>kH h.1
theorem BD(n:Nat)(x y:Cell):gG w (dn n x) (dn n y)=gG w x y:=by
 have:dw (n+x.1) (n+y.1)=dw x.1 y.1:=by unfold dw;omega
 unfold gG dn
 simp only[this]
theorem wk:Iso b (a++b) V V w (dn a.length) where
 on:=fun x h=>⟨by rw[List.length_append];show a.length+x.1<_;have:=h.1;omega,h.2⟩
 nx:=fun _ _ _ _ h=>by rw[BD];exact h
 lt:=fun x _=>qt
theorem sL(n:Nat)(x:Cell):rank V (dn n x)=n*V+rank V x:=by
 unfold rank dn
 simp only[Nat.add_mul]
 omega
theorem pX(m:Nat):∀n,ay (m+n) V=ay m V++(ay n V).map (dn m)
 |0=>by simp[ay]
 |n+1=>by
  rw[←Nat.add_assoc,mU,pX m n,mU,List.map_append,List.append_assoc]
  congr 2
  unfold dj
  rw[List.map_map]
  rfl
theorem Ay:ay (a++b).length V=ay a.length V++(ay b.length V).map (dn a.length):=by rw[List.length_append,pX]
theorem qp(hw:Ways w){x:Cell}(hx:On a.length V x)(h:Least (a++b) V w x x):Least a V w x x:=⟨Cn.refl,fun z hz=>h.2 z (rX.cn hw hx hz)⟩
theorem ux(hw:Ways w){x:Cell}(hx:On b.length V x)(h:Least (a++b) V w (dn a.length x) (dn a.length x)):Least b V w x x:=⟨Cn.refl,fun z hz=>by
 have:=h.2 _ (wk.cn hw hx hz)
 rw[sL,sL] at this
 omega⟩
theorem filter_le{α:Type}{p q:α→Bool}(l:List α)(h:∀x∈l,p x=true→q x=true):(l.filter p).length≤(l.filter q).length:=by
 rw[←List.countP_eq_length_filter,←List.countP_eq_length_filter]
 exact List.countP_mono_left h
theorem oP{α:Type}(p q:α→Bool):∀l:List α,(l.filter p).length=(l.filter fun y=>p y&&q y).length+(l.filter fun y=>p y&& !q y).length
 |[]=>rfl
 |a::l=>by
  have ih:=oP p q l
  rw[List.filter_cons,List.filter_cons,List.filter_cons]
  cases h1:p a<;>cases h2:q a<;>simp_all<;>omega
theorem ya:(ax (a++b) V w).length=((ay a.length V).filter fun x=>decide (Least (a++b) V w x x)).length+((ay b.length V).filter fun x=>decide (Least (a++b) V w (dn a.length x) (dn a.length x))).length:=by
 unfold ax bA
 rw[List.length_map,Ay,List.filter_append,List.length_append,List.filter_map,List.length_map]
 rfl
theorem jE{bd:List Str}:(ax bd V w).length=((ay bd.length V).filter fun x=>decide (Least bd V w x x)).length:=by
 unfold ax bA
 rw[List.length_map]
theorem Dj(hw:Ways w):(ax (a++b) V w).length≤(ax a V w).length+(ax b V w).length:=by
 rw[ya,jE (bd:=a),jE (bd:=b)]
 refine Nat.add_le_add (filter_le _ fun x hx h=>?_) (filter_le _ fun x hx h=>?_)
 ·exact decide_eq_true (qp hw (aH.mp hx) (of_decide_eq_true h))
 ·exact decide_eq_true (ux hw (aH.mp hx) (of_decide_eq_true h))
theorem uG(hw:Ways w){n c t:Nat}(h:1≤n):gG w (n - 1,c) (n,t)=near w c t:=by
 have e:dw (n - 1) n=1:=by unfold dw;omega
 unfold gG near
 rcases hw with rfl | rfl
 ·simp only[if_true,e]
  rw[decide_eq_decide]
  simp
 ·simp only[e]
  rw[if_neg (by decide),decide_eq_decide]
  simp
  omega
theorem BF(hw:Ways w){x y:Cell}(h:gG w x y=true)(h2:x.1<y.1):y.1=x.1+1:=by
 unfold gG at h
 have h3:dw x.1 y.1=y.1 - x.1:=by unfold dw;omega
 split at h
 ·have:=of_decide_eq_true h
  omega
 ·have:=of_decide_eq_true h
  omega
noncomputable def zM(a b:List Str)(w:Nat)(fa fb:Cell→Nat)(V:Nat):List Cell:=l8 (l9 a b w) (fun c t=>(fa (a.length - 1,c),fb (0,t))) V
theorem iB{fa fb:Cell→Nat}{k:Cell}:k∈zM a b w fa fb V↔∃c t,c<V∧t<V∧lt a (a.length - 1,c)=lt b (0,t)∧near w c t=true∧k=(fa (a.length - 1,c),fb (0,t)):=by
 unfold zM
 rw[zr]
 unfold l9
 simp only[Bool.and_eq_true,decide_eq_true_eq,and_assoc]
theorem Iy(hw:Ways w)(h1:1≤a.length){u z0:Cell}(hu:On a.length V u)(hz:On b.length V z0)(hn:gG w u (dn a.length z0)=true)(hl:lt a u=lt b z0):u.1=a.length - 1∧z0.1=0∧near w u.2 z0.2=true:=by
 have d5:u.1<(dn a.length z0).1:=Nat.lt_of_lt_of_le hu.1 (Nat.le_add_right ..)
 have e:=BF hw hn d5
 have e:a.length+z0.1=u.1+1:=e
 have Nx:=hu.1
 have e1:u.1=a.length - 1:=by omega
 have e2:z0.1=0:=by omega
 refine⟨e1,e2,?_⟩
 rw[←uG hw h1]
 obtain⟨u1,u2⟩:=u
 obtain⟨z1,z2⟩:=z0
 simp only at e1 e2
 subst e1 e2
 exact hn
theorem CY{z:Cell}(h:On (a++b).length V z)(h2:¬z.1<a.length):∃z0,On b.length V z0∧z=dn a.length z0:=by
 rw[List.length_append] at h
 refine⟨(z.1 - a.length,z.2),⟨by have:=h.1;show z.1 - a.length<_;omega,h.2⟩,?_⟩
 unfold dn
 exact Prod.ext (by simp;omega) rfl
end
section
open Classical
variable{a b a' b':List Str}{V w:Nat}
theorem B_(hw:Ways w){ka kb KP KQ:List Cell}{fa fb F4 F7:Cell→Nat}(na:Nums a V w ka fa)(nb:Nums b V w kb fb)(Ia:Nums a' V w KP F4)(Ib:Nums b' V w KQ F7)(r:1≤a.length)(s:1≤b.length)(r':1≤a'.length)(s':1≤b'.length){φa φb:Cell→Cell}(ia:Iso a' a V V w φa)(ib:Iso b' b V V w φb)(θ:Nat→Nat)
 (h1:∀c,c<V→θ c<V)(h2:∀c,c<V→φa (a'.length - 1,θ c)=(a.length - 1,c))(h3:∀c,c<V→φb (0,θ c)=(0,c))(h4:∀c t,c<V→t<V→near w (θ c) (θ t)=near w c t):(zM a b w fa fb V).length≤(zM a' b' w F4 F7 V).length:=by
 have oa:∀c,c<V→On a.length V (a.length - 1,c):=fun c hc=>⟨by show a.length - 1<_;omega,hc⟩
 have KU:∀c,c<V→On a'.length V (a'.length - 1,θ c):=fun c hc=>⟨by show a'.length - 1<_;omega,h1 c hc⟩
 have ob:∀c,c<V→On b.length V (0,c):=fun c hc=>⟨s,hc⟩
 have Ic:∀c,c<V→On b'.length V (0,θ c):=fun c hc=>⟨s',h1 c hc⟩
 have la:∀c,c<V→lt a' (a'.length - 1,θ c)=lt a (a.length - 1,c):=fun c hc=>by rw[←ia.lt _ (KU c hc),h2 c hc]
 have lb:∀c,c<V→lt b' (0,θ c)=lt b (0,c):=fun c hc=>by rw[←ib.lt _ (Ic c hc),h3 c hc]
 refine EK (E:=fun p:Nat×Nat=>p.1<V∧p.2<V∧lt a (a.length - 1,p.1)=lt b (0,p.2)∧near w p.1 p.2=true) (E':=fun p:Nat×Nat=>p.1<V∧p.2<V∧lt a' (a'.length - 1,p.1)=lt b' (0,p.2)∧near w p.1 p.2=true) (g:=fun p=>(fa (a.length - 1,p.1),fb (0,p.2))) (g':=fun p=>(F4 (a'.length - 1,p.1),F7 (0,p.2))) (sY ..) (fun k hk=>?_) (fun p hp=>?_) (fun p=>(θ p.1,θ p.2)) (fun p ⟨p1,p2,p3,p4⟩=>⟨h1 _ p1,h1 _ p2,by rw[la _ p1,lb _ p2];exact p3,by rw[h4 _ _ p1 p2];exact p4⟩) fun p q ⟨p1,p2,_,_⟩ ⟨q1,q2,_,_⟩ e=>?_
 ·obtain⟨c,t,c1,c2,c3,c4,c5⟩:=iB.mp hk
  exact⟨(c,t),⟨c1,c2,c3,c4⟩,c5⟩
 ·exact iB.mpr ⟨p.1,p.2,hp.1,hp.2.1,hp.2.2.1,hp.2.2.2,rfl⟩
 ·injection e with e1 e2
  have x1:=ia.cn hw (KU _ p1) ((iC hw Ia (KU _ p1) (KU _ q1)).mp e1)
  have x2:=ib.cn hw (Ic _ p2) ((iC hw Ib (Ic _ p2) (Ic _ q2)).mp e2)
  rw[h2 _ p1,h2 _ q1] at x1
  rw[h3 _ p2,h3 _ q2] at x2
  exact Prod.ext ((iC hw na (oa _ p1) (oa _ q1)).mpr x1) ((iC hw nb (ob _ p2) (ob _ q2)).mpr x2)
def Jz(V:Nat)(x:Cell):Cell:=(x.1,V - 1 - x.2)
theorem cQ(bd:List Str):(dO bd).length=bd.length:=List.length_map ..
theorem AH{V i j:Nat}(hi:i<V)(hj:j<V):dw (V - 1 - i) (V - 1 - j)=dw i j:=by unfold dw;omega
theorem BE{x y:Cell}(hx:x.2<V)(hy:y.2<V):gG w (Jz V x) (Jz V y)=gG w x y:=by
 unfold gG Jz
 simp only[AH hx hy]
theorem Be(hr:∀r∈a,r.length=V):Iso a (dO a) V V w (Jz V) where
 on:=fun x h=>⟨by rw[cQ];exact h.1,by show V - 1 - x.2<V;have:=h.2;omega⟩
 nx:=fun x y hx hy h=>by rw[BE hx.2 hy.2];exact h
 lt:=fun x h=>by
  have h2:=h.2
  show at2 (dO a) x.1 (V - 1 - x.2)=at2 a x.1 x.2
  rw[yc hr h.1 (by omega)]
  congr 1
  omega
theorem xV(hr:∀r∈a,r.length=V):Iso (dO a) a V V w (Jz V) where
 on:=fun x h=>by
  rw[cQ] at h
  exact⟨h.1,by show V - 1 - x.2<V;have:=h.2;omega⟩
 nx:=fun x y hx hy h=>by rw[BE hx.2 hy.2];exact h
 lt:=fun x h=>by
  rw[cQ] at h
  exact(yc hr h.1 h.2).symm
theorem ye{c t:Nat}(hc:c<V)(ht:t<V):near w (V - 1 - c) (V - 1 - t)=near w c t:=by
 unfold near
 rw[AH hc ht]
theorem Ca(hw:Ways w)(KG:∀r∈a,r.length=V)(KH:∀r∈b,r.length=V){ka kb KP KQ:List Cell}{fa fb F4 F7:Cell→Nat}(na:Nums a V w ka fa)(nb:Nums b V w kb fb)(Ia:Nums (dO a) V w KP F4)(Ib:Nums (dO b) V w KQ F7)(r:1≤a.length)(s:1≤b.length):(zM (dO a) (dO b) w F4 F7 V).length=(zM a b w fa fb V).length:=by
 have r':1≤(dO a).length:=by rw[cQ];exact r
 have s':1≤(dO b).length:=by rw[cQ];exact s
 refine Nat.le_antisymm ?_ ?_
 ·refine B_ hw Ia Ib na nb r' s' r s (Be KG) (Be KH) (fun c=>V - 1 - c) (fun c hc=>by omega) (fun c hc=>?_) (fun c hc=>?_) fun c t hc ht=>ye hc ht
  ·rw[cQ];exact Prod.ext rfl (by show V - 1 - (V - 1 - c)=c;omega)
  ·exact Prod.ext rfl (by show V - 1 - (V - 1 - c)=c;omega)
 ·refine B_ hw na nb Ia Ib r s r' s' (xV KG) (xV KH) (fun c=>V - 1 - c) (fun c hc=>by omega) (fun c hc=>?_) (fun c hc=>?_) fun c t hc ht=>ye hc ht
  ·rw[cQ];exact Prod.ext rfl (by show V - 1 - (V - 1 - c)=c;omega)
  ·exact Prod.ext rfl (by show V - 1 - (V - 1 - c)=c;omega)
end
end K1
namespace K1
open PySem L2 L3 HT
theorem Mi{δ:DE}{ρ:aX}{i:Int}(h:δ ρ=M.ret (.int i)):oS δ ρ=M.ret (some i):=by
 unfold oS
 rw[h]
 rfl
theorem mL{bd:List Str}{i:Nat}{ρ:aX}(h0:ρ[i]? =some (fz (brd bd))){δ:DE}{k:Nat}(hk:k≤bd.length)(hδ:δ ρ=M.ret (.int (k:Int))):yT (dV i) oN (oS δ) ρ=M.ret (brd (bd.take k))∧yT (dV i) (oS δ) oN ρ=M.ret (brd (bd.drop k)):=by
 have e1:sIx bd.length bd.length (some (k:Int))=k:=by rw[sIx_nat];omega
 have e2:sIx bd.length 0 (some (k:Int))=k:=by rw[sIx_nat];omega
 have e3:sIx bd.length 0 none=0:=rfl
 have e4:sIx bd.length bd.length none=bd.length:=rfl
 unfold yT
 rw[km h0,aq,aq,show oN ρ=M.ret none from rfl,aq,Mi hδ,aq,aq]
 constructor
 ·show M.ret (D.tup (cutD (bd.map D.str) none (some (k:Int))))=_
  unfold cutD
  rw[List.length_map,e1,e3,List.drop_zero,Nat.sub_zero,←List.map_take]
 ·show M.ret (D.tup (cutD (bd.map D.str) (some (k:Int)) none))=_
  unfold cutD
  rw[List.length_map,e2,e4,←List.map_drop,List.take_of_length_le (by rw[List.length_map,List.length_drop];exact Nat.le_refl _)]
section
open Classical
variable{bd a b:List Str}{V w:Nat}
theorem uX(hw:Ways w){ks:List Cell}{f:Cell→Nat}(n:Nums bd V w ks f){x:Cell}(hx:On bd.length V x):∃m r,fI (.lst ((ax bd V w).map cL)) (.int (f x:Int))=M.ret (cL (m::r))∧On bd.length V m∧lt bd m=lt bd x∧x∈m::r∧(∀y∈m::r,On bd.length V y)∧(m::r).length≤bd.length*V:=by
 obtain⟨P,p1,p2⟩:=n.num x hx
 obtain⟨m,m1,rfl⟩:=iD p1
 have hm:=r6 m1
 have DK:=c7 hm
 obtain⟨r,hr⟩:=wM hw hm
 have hP:=cq hw DK
 have mH:∀y∈aY bd V w m,On bd.length V y:=fun y hy=>((hP.mem y).mp hy).on hw DK
 refine⟨m,r,?_,DK,?_,hr▸p2,fun y hy=>mH y (hr▸hy),by rw[←hr];exact mD hP.rise.nodup mH⟩
 ·rw[←hr]
  show (match L2.atI ((ax bd V w).map cL) (f x:Int) with | some d=>M.ret d | none=>M.stuck)=_
  rw[eJ (x:=cL (aY bd V w m)) (by rw[List.getElem?_map,p1];rfl)]
 ·exact(((hP.mem x).mp p2).letter hw).symm
theorem lJ{W:Nat}(hg:Brd bd W){c:Cell}(h:On bd.length W c):bY [brd bd,cD c]=M.ret (sg (lt bd c)):=
 a_ (aj (br ((ak (ds:=[brd bd]) rfl rfl).trans hg.nb)) (aj (br ((ak (ds:=[brd bd,cD c]) rfl rfl).trans (hg.nc h))) (aE ((ak (ds:=[brd bd,cD c]) rfl rfl).trans (c6 hg h)))))
end
section
open Classical
variable{bd a b:List Str}{V w:Nat}
theorem ix(hG:Good bd V):bd.length*V<64:=by
 have:=Nat.mul_le_mul hG.r5 hG.w5
 omega
theorem j7(ha:Good a V)(hb:Good b V)(hw:Ways w)(h8:a.length+b.length≤8):∃ka kb fa fb,Nums a V w ka fa∧Nums b V w kb fb∧f_ [brd a,brd b, .int (w:Int)]=M.ret (cL (cM (zM a b w fa fb V))):=by
 obtain⟨ka,fa,na⟩:=yh ha.brd (ix ha) hw
 obtain⟨kb,fb,nb⟩:=yh hb.brd (ix hb) hw
 exact⟨ka,kb,fa,fb,na,nb,CB ha.brd hb.brd hw h8 (by have:=ha.w5;omega) na nb⟩
theorem EB{fa fb:Cell→Nat}(hV:V≤5):(zM a b w fa fb V).length≤25:=Nat.le_trans (vm ..) (Nat.mul_le_mul hV hV)
theorem ltZ(i j:Int):Ku (.int i) (.int j)=M.ret (.bl (decide (i<j))):=rfl
theorem D3{δ:DE}{ρ:aX}{l:List Cell}(h:δ ρ=M.ret (cL l)):dA aU (aC δ aN) ρ=M.ret (.int (l.length:Int)):=(cu (aJ h rfl)).trans (G0 l)
end
end K1
namespace K1
open PySem L2 L3
def lG(gc:Nat→Nat)(e:Nat×Nat):Nat→Nat:=fun z=>if gc z=gc e.2 then gc e.1 else gc z
theorem kD{gc:Nat→Nat}{e:Nat×Nat}{y z:Nat}(h:gc y=gc z):lG gc e y=lG gc e z:=by
 unfold lG
 rw[h]
theorem ze{gc:Nat→Nat}{e:Nat×Nat}:lG gc e e.1=lG gc e e.2:=by
 unfold lG
 rw[if_pos rfl]
 split<;>rfl
theorem lA{gc:Nat→Nat}{c:Nat}:∀{T:List Nat},T.Nodup→(∀u∈T,∀v∈T,gc u=gc v→u=v)→T.length≤(T.filter fun z=>!decide (gc z=c)).length+1
 |[],_,_=>Nat.zero_le _
 |x::T,hn,h=>by
  obtain⟨g1,g2⟩:=List.nodup_cons.mp hn
  by_cases e:gc x=c
  ·have:T.filter (fun z=>!decide (gc z=c))=T:=List.filter_eq_self.mpr fun z hz=>by
    rw[Bool.not_eq_true',decide_eq_false_iff_not]
    intro q
    rw[h x (List.mem_cons_self ..) z (List.mem_cons_of_mem _ hz) (e.trans q.symm)] at g1
    exact g1 hz
   rw[List.filter_cons_of_neg (by simp[e]),this,List.length_cons]
   exact Nat.le_refl _
  ·have ih:=lA (c:=c) g2 fun u hu v hv=>h u (List.mem_cons_of_mem _ hu) v (List.mem_cons_of_mem _ hv)
   rw[List.filter_cons_of_pos (by simp[e]),List.length_cons,List.length_cons]
   omega
theorem uu:∀(es:List (Nat×Nat)) (gc:Nat→Nat) (T:List Nat),T.Nodup→(∀u∈T,∀v∈T,gc u=gc v→u=v)→
 ∃(zj:Nat→Nat) (T':List Nat),T'.Nodup∧(∀u∈T',u∈T)∧(∀u∈T',∀v∈T',zj u=zj v→u=v)∧T.length≤T'.length+es.length∧(∀y z,gc y=gc z→zj y=zj z)∧∀e∈es,zj e.1=zj e.2
 |[],gc,T,hn,h=>⟨gc,T,hn,fun _ h=>h,h,Nat.le_refl _,fun _ _ h=>h,fun _ h=>by cases h⟩
 |e::es,gc,T,hn,h=>by
  have hr:=lA (c:=gc e.2) hn h
  obtain⟨l2,T2,a1,a2,a3,a4,a5,a6⟩:=uu es (lG gc e) (T.filter fun z=>!decide (gc z=gc e.2)) (hn.filter _) fun u hu v hv q=>by
   rw[List.mem_filter,Bool.not_eq_true',decide_eq_false_iff_not] at hu hv
   unfold lG at q
   rw[if_neg hu.2,if_neg hv.2] at q
   exact h u hu.1 v hv.1 q
  refine⟨l2,T2,a1,fun u hu=>(List.mem_filter.mp (a2 u hu)).1,a3,by rw[List.length_cons];omega,fun y z q=>a5 y z (kD q),fun d hd=>?_⟩
  rcases List.mem_cons.mp hd with rfl | q
  ·exact a5 _ _ ze
  ·exact a6 d q
section
open Classical
variable{a b:List Str}{V w:Nat}
theorem uA(hw:Ways w){bd:List Str}{ks:List Cell}{f:Cell→Nat}(n:Nums bd V w ks f){i:Nat}(hi:i<(ax bd V w).length):∃x,On bd.length V x∧f x=i:=by
 have hl:(bA bd V w (ay bd.length V)).length=(ax bd V w).length:=by unfold ax;rw[List.length_map]
 have pA:i<(bA bd V w (ay bd.length V)).length:=by omega
 have hm:=List.getElem_mem pA
 have ho:=c7 hm
 refine⟨_,ho,?_⟩
 obtain⟨m,m1,m2⟩:=G1 n hw ho
 have:=m2.one hw ho (jD.mp hm).2
 subst this
 exact uz m1 (List.getElem?_eq_getElem pA)
theorem DX(hw:Ways w)(h1:1≤a.length){ka kb:List Cell}{fa fb:Cell→Nat}(na:Nums a V w ka fa)(nb:Nums b V w kb fb):(ax a V w).length+(ax b V w).length≤(ax (a++b) V w).length+(zM a b w fa fb V).length:=by
 let n:=(ax a V w).length
 obtain⟨gc,T,t1,t2,t3,t4,t5,t6⟩:=uu ((zM a b w fa fb V).map fun k=>(k.1,n+k.2)) id (List.range (n+(ax b V w).length)) List.nodup_range fun u _ v _ e=>e
 rw[List.length_range,List.length_map] at t4
 let vx:Cell→Nat:=fun z=>if z.1<a.length then fa z else n+fb (z.1 - a.length,z.2)
 have yy:∀z:Cell,z.1<a.length→vx z=fa z:=fun z h=>if_pos h
 have E7:∀z:Cell,vx (dn a.length z)=n+fb z:=fun z=>by
  show (if a.length+z.1<a.length then _ else _)=_
  rw[if_neg (by omega)]
  show n+fb (a.length+z.1 - a.length,z.2)=_
  rw[Nat.add_sub_cancel_left]
 have IB:∀{u z0:Cell},On a.length V u→On b.length V z0→gG w u (dn a.length z0)=true→lt a u=lt b z0→gc (fa u)=gc (n+fb z0):=fun {u z0} hu hz hn hl=>by
  obtain⟨c1,c2,c3⟩:=Iy hw h1 hu hz hn hl
  refine t6 (fa u,n+fb z0) (List.mem_map.mpr ⟨(fa u,fb z0),iB.mpr ⟨u.2,z0.2,hu.2,hz.2,?_,c3,?_⟩,rfl⟩)
  ·rw[←c1,←c2];exact hl
  ·rw[←c1,←c2]
 have step:∀u z,On (a++b).length V u→z∈a8 (a++b) V w u→gc (vx u)=gc (vx z):=fun u z hu hz=>by
  have hz:=(bU hw).mp hz
  by_cases e1:u.1<a.length
  ·have Ny:On a.length V u:=⟨e1,hu.2⟩
   rw[yy u e1]
   by_cases e2:z.1<a.length
   ·have KN:On a.length V z:=⟨e2,hz.1.2⟩
    rw[yy z e2]
    rw[kH e1,kH e2] at hz
    rw[(iC hw na Ny KN).mpr ((Cn.refl:Cn a V w u u).step ((bU hw).mpr ⟨KN,hz.2.1,hz.2.2⟩))]
   ·obtain⟨z0,KL,rfl⟩:=CY hz.1 e2
    rw[E7]
    rw[kH e1,qt] at hz
    exact IB Ny KL hz.2.1 hz.2.2.symm
  ·obtain⟨u0,GF,rfl⟩:=CY hu e1
   rw[E7]
   by_cases e2:z.1<a.length
   ·have KN:On a.length V z:=⟨e2,hz.1.2⟩
    rw[yy z e2]
    rw[kH e2,qt] at hz
    exact(IB KN GF (by rw[nW];exact hz.2.1) hz.2.2).symm
   ·obtain⟨z0,KL,rfl⟩:=CY hz.1 e2
    rw[E7]
    rw[qt,qt,BD] at hz
    rw[(iC hw nb GF KL).mpr ((Cn.refl:Cn b V w u0 u0).step ((bU hw).mpr ⟨KL,hz.2.1,hz.2.2⟩))]
 have cls:∀u z,On (a++b).length V u→Cn (a++b) V w u z→gc (vx u)=gc (vx z):=fun u z hu ⟨j,q⟩=>by
  have:∀{j:Nat}{z:Cell},Rb (a8 (a++b) V w) u j z→gc (vx u)=gc (vx z):=by
   intro j
   induction j with
   |zero=>intro z q;rw[show z=u from q]
   |succ j ih=>
    rintro z (q | ⟨y,q1,q2⟩)
    ·exact ih q
    ·exact(ih q1).trans (step y z (u9 hw hu q1) q2)
  exact this q
 obtain⟨L,hL⟩:=iz (bd:=a++b) (W:=V) hw
 have hT:T.length≤(bA (a++b) V w (ay (a++b).length V)).length:=by
  refine wc (R:=fun t m=>∃z,On (a++b).length V z∧vx z=t∧Cn (a++b) V w z m) T _ t1 (fun t ht=>?_) fun t ht u hu m ⟨z,z1,z2,z3⟩ ⟨y,y1,y2,y3⟩=>?_
  ·have hr:=List.mem_range.mp (t2 t ht)
   obtain⟨z,hz,hv⟩:∃z,On (a++b).length V z∧vx z=t:=by
    by_cases e:t<n
    ·obtain⟨x,hx,rfl⟩:=uA hw na e
     exact⟨x,rX.on (w:=w) x hx,yy x hx.1⟩
    ·obtain⟨x,hx,e2⟩:=uA hw nb (i:=t - n) (by omega)
     exact⟨dn a.length x,wk.on (w:=w) x hx,by rw[E7,e2];omega⟩
   have hm:=hL z hz
   exact⟨L z,jD.mpr ⟨aH.mpr (hm.on hw hz),hm.self hw hz⟩,z,hz,hv,hm.1⟩
  ·refine t3 t ht u hu ?_
   rw[←z2,←y2,cls z m z1 z3,cls y m y1 y3]
 have:(bA (a++b) V w (ay (a++b).length V)).length=(ax (a++b) V w).length:=by unfold ax;rw[List.length_map]
 show n+_≤_
 omega
theorem DY(hw:Ways w)(lD:Brd a V)(lF:Brd b V){kb:List Cell}{fa fb:Cell→Nat}(nb:Nums b V w kb fb)(h:zM a b w fa fb V≠[]):(ax (a++b) V w).length<(ax a V w).length+(ax b V w).length:=by
 obtain⟨k,hk⟩:=List.exists_mem_of_ne_nil _ h
 obtain⟨c,t,c1,c2,c3,c4,_⟩:=iB.mp hk
 have r1:=lD.r1
 have xa:On a.length V (a.length - 1,c):=⟨by show a.length - 1<_;omega,c1⟩
 have xb:On b.length V (0,t):=⟨lF.r1,c2⟩
 obtain⟨L,hL⟩:=iz (bd:=b) (W:=V) hw
 have hm:=hL _ xb
 have DK:=hm.on hw xb
 have Jl:=hm.self hw xb
 have Gw:¬Least (a++b) V w (dn a.length (L (0,t))) (dn a.length (L (0,t))):=fun q=>by
  have x1:Cn (a++b) V w (dn a.length (L (0,t))) (dn a.length (0,t)):=wk.cn hw DK (hm.1.symm hw xb)
  have x2:(a.length - 1,c)∈a8 (a++b) V w (dn a.length (0,t)):=(bU hw).mpr ⟨rX.on (w:=w) _ xa,by
   rw[nW]
   show gG w (a.length - 1,c) (a.length+0,t)=true
   rw[Nat.add_zero,uG hw r1]
   exact c4,by rw[qt,kH xa.1];exact c3⟩
  have:=q.2 _ (x1.step x2)
  rw[sL] at this
  have hr:=EL xa
  omega
 rw[ya,jE (bd:=a),jE (bd:=b),oP (fun x=>decide (Least b V w x x)) (fun x=>decide (Least (a++b) V w (dn a.length x) (dn a.length x))) (ay b.length V)]
 have p1:((ay a.length V).filter fun x=>decide (Least (a++b) V w x x)).length≤((ay a.length V).filter fun x=>decide (Least a V w x x)).length:=filter_le _ fun x hx h=>decide_eq_true (qp hw (aH.mp hx) (of_decide_eq_true h))
 have p2:((ay b.length V).filter fun x=>decide (Least (a++b) V w (dn a.length x) (dn a.length x))).length≤((ay b.length V).filter fun x=>decide (Least b V w x x)&&decide (Least (a++b) V w (dn a.length x) (dn a.length x))).length:=filter_le _ fun x hx h=>by
  rw[h,Bool.and_true]
  exact decide_eq_true (ux hw (aH.mp hx) (of_decide_eq_true h))
 have p3:0<((ay b.length V).filter fun x=>decide (Least b V w x x)&& !decide (Least (a++b) V w (dn a.length x) (dn a.length x))).length:=List.length_pos_of_mem (List.mem_filter.mpr ⟨aH.mpr DK,by rw[decide_eq_true Jl,decide_eq_false Gw];rfl⟩)
 omega
theorem CN(hg:Brd a V)(hw:Ways w):(dq (gf a V w)).sum=((a.length*V:Nat):Int):=by
 have hp:∀{l m:List Int},l.Perm m→l.sum=m.sum:=fun h=>by
  induction h with
  |nil=>rfl
  |cons x _ ih=>rw[List.sum_cons,List.sum_cons,ih]
  |swap x y l=>simp only[List.sum_cons];omega
  |trans _ _ i1 i2=>exact i1.trans i2
 rw[hp (d3 _)]
 have h1:∀l:List (List Cell),(l.map fun P=>(P.length:Int)).sum=((l.flatten.length:Nat):Int):=by
  intro l
  induction l with
  |nil=>rfl
  |cons P l ih=>rw[List.map_cons,List.sum_cons,ih,List.flatten_cons,List.length_append];omega
 unfold gf
 rw[h1]
 have:=congrArg List.length (z6 hg hw)
 rw[kF,cF] at this
 rw[this]
end
end K1
namespace K1
open PySem L2 L3 HT
theorem Gg:((ay 25 25).map fun c=>c0 (ic c)).Nodup:=by decide+kernel
section
open Classical
variable{bd a b:List Str}{V w:Nat}
theorem CL{l:List Cell}(h:RiseC l)(hl:l.length<64)(mH:∀x∈l,On 25 25 x):iI (cL l)=M.ret (cL l):=by
 show (match gb (l.map cD) with | some ks=>if dY ks=true∧(ks.map c0).Nodup then M.ret (D.lst ((sortI ks).map tupI)) else M.stuck | none=>M.stuck)=_
 rw[uq]
 have Ac:(l.map fun c=>c0 (ic c)).Nodup:=by
  have:∀l:List Cell,l.Nodup→(∀x∈l,On 25 25 x)→(l.map fun c=>c0 (ic c)).Nodup:=by
   intro l
   induction l with
   |nil=>intro _ _;exact List.nodup_nil
   |cons x l ih=>
    intro h1 h2
    obtain⟨g1,g2⟩:=List.nodup_cons.mp h1
    rw[List.map_cons,List.nodup_cons]
    refine⟨fun hm=>?_,ih g2 fun y hy=>h2 y (List.mem_cons_of_mem _ hy)⟩
    obtain⟨y,hy,e⟩:=List.mem_map.mp hm
    have:=kJ Gg y (aH.mpr (h2 y (List.mem_cons_of_mem _ hy))) x (aH.mpr (h2 x (List.mem_cons_self ..))) e
    rw[this] at hy
    exact g1 hy
  exact this l h.nodup mH
 refine(if_pos ⟨FG h.nodup hl,by rw[List.map_map];exact Ac⟩).trans ?_
 rw[iH,CI h,List.map_map]
 rfl
theorem DB(hg:Brd bd V)(h5:V≤5){k:Nat}(h1:1≤k)(h2:k<bd.length)(h6:bd.length≤6):Good (bd.take k) V:=⟨by rw[List.length_take];omega,by rw[List.length_take];omega,hg.w1,h5,fun r hr=>hg.rows r (List.take_subset _ _ hr)⟩
theorem Dz(hg:Brd bd V)(h5:V≤5){k:Nat}(h1:1≤k)(h2:k<bd.length)(h6:bd.length≤6):Good (bd.drop k) V:=⟨by rw[List.length_drop];omega,by rw[List.length_drop];omega,hg.w1,h5,fun r hr=>hg.rows r (List.drop_subset _ _ hr)⟩
theorem zT(ha:Brd a V)(hb:Brd b V)(h8:a.length+b.length≤8):eG [brd a,brd b]=M.ret (brd (a++b)):=by
 have Ly:dS [brd a,brd b]=M.ret .non:=by
  refine j3 (aj (cI (ek ((aL (ha.len0 (i:=0) rfl) (hb.len0 (i:=1) rfl)).trans ((qB V V).trans (by rw[beq_self_eq_true];rfl)))) rfl) (cI (ek ((aL (x:= .int ((a.length:Int)+(b.length:Int))) (y:= .int 8) ((aL (rY (i:=0) rfl) (rY (i:=1) rfl)).trans rfl) rfl).trans ?_)) rfl))
  show M.ret (D.bl (decide ((8:Int)<(a.length:Int)+(b.length:Int))))=_
  rw[decide_eq_false (by omega)]
 exact a_ (aj (br ((ak (ds:=[brd a]) rfl rfl).trans ha.nb)) (aj (br ((ak (ds:=[brd b]) rfl rfl).trans hb.nb)) (aj (br ((ak (ds:=[brd a,brd b]) rfl rfl).trans Ly)) (aE ((aL (x:=brd a) (y:=brd b) rfl rfl).trans (rF h8))))))
theorem yg{ks:List Cell}{f:Cell→Nat}(n:Nums bd V w ks f)(hG:Good bd V){x:Cell}(hx:On bd.length V x):f x<25:=by
 obtain⟨P,p1,_⟩:=n.num x hx
 have h1:=(List.getElem?_eq_some_iff.mp p1).1
 have h2:=nG (bd:=bd) (W:=V) (w:=w)
 have:=Nat.mul_le_mul hG.r5 hG.w5
 omega
theorem N_(i j:Int):Kt (.int i) (.int j)=M.ret (.bl (decide (j≤i))):=rfl
abbrev vM(s b:D)(w:Nat)(z:D)(x4 x5 x6 x7 x8 x9 MK ML PK PL Kk:Option Sl):aX:=[fz s,fz b,fz (.int (w:Int)),fz z,x4,x5,x6,x7,x8,x9,MK,ML,PK,PL,Kk]
def GI:DS:=(cH [12,13] (gq (cY (d2 ky (ah 2 bY (aC (dV 5) (aC (d2 fI (d2 fI (dV 10) (dV 12)) (dC (.int 0))) aN))) (ah 2 bY (aC (dV 6) (aC (d2 fI (d2 fI (dV 11) (dV 13)) (dC (.int 0))) aN))))) (bt (dC (.bl false))) cJ))
def Ir:DS:=(cH [4,5,6,7,8,9,10,11,12,13] (aB (bJ 5 (yT (dV 1) oN (oS (dV 4)))) (aB (bJ 6 (yT (dV 1) (oS (dV 4)) oN)) (aB (bJ 7 (ah 3 f_ (aC (dV 5) (aC (dV 6) (aC (dV 2) aN))))) (aB (bJ 8 (d2 dr (ah 2 bG (aC (dV 5) (aC (dV 2) aN))) (ah 2 bG (aC (dV 6) (aC (dV 2) aN))))) (aB (bJ 9 (ah 3 aP (aC (dV 5) (aC (dV 6) (aC (dV 2) aN))))) (aB (gq (i6 (cY (d2 ky (ah 2 eG (aC (dV 5) (aC (dV 6) aN))) (dV 1))) (i6 (cY (d2 ky (dV 9) (ah 2 bG (aC (dV 1) (aC (dV 2) aN))))) (cY (d2 ky (ah 3 bb (aC (dV 5) (aC (dV 6) (aC (dV 2) aN)))) (dV 3))))) (bt (dC (.bl false))) cJ) (aB (gq (i6 (cY (d2 Ku (dV 9) (d2 kz (dV 8) (dA aU (aC (dV 7) aN))))) (i6 (ph (cY (d2 kx (dV 7) (dA fN aN))) (cY (d2 ky (dV 9) (dV 8)))) (ph (cY (d2 IH (dA aU (aC (dV 7) aN)) (dC (.int 0)))) (cY (d2 Kt (dV 9) (dV 8)))))) (bt (dC (.bl false))) cJ) (aB (gq (i6 (cY (d2 ky (dA aU (aC (ah 3 f_ (aC (ah 1 cE (aC (dV 5) aN)) (aC (ah 1 cE (aC (dV 6) aN)) (aC (dV 2) aN)))) aN)) (dA aU (aC (dV 7) aN)))) (cY (d2 ky (dV 7) (d1 iI (dV 7))))) (bt (dC (.bl false))) cJ) (aB (bJ 10 (ah 2 bL (aC (dV 5) (aC (dV 2) aN)))) (aB (bJ 11 (ah 2 bL (aC (dV 6) (aC (dV 2) aN)))) (dZ (qQ [12,13]) (eM (dV 7)) GI))))))))))))
theorem Bb(lD:Brd a V)(lF:Brd b V)(hw:Ways w){ka kb:List Cell}{fa fb:Cell→Nat}(na:Nums a V w ka fa)(nb:Nums b V w kb fb){k:Cell}(hk:k∈zM a b w fa fb V)(s B z K:D)(x4 x8 x9 Kk:Option Sl):
 GI (vM s B w z x4 (fz (brd a)) (fz (brd b)) (fz K) x8 x9 (fz (.lst ((ax a V w).map cL))) (fz (.lst ((ax b V w).map cL))) (fz (.int (k.1:Int))) (fz (.int (k.2:Int))) Kk)=M.ret (.nx (vM s B w z x4 (fz (brd a)) (fz (brd b)) (fz K) x8 x9 (fz (.lst ((ax a V w).map cL))) (fz (.lst ((ax b V w).map cL))) none none Kk)):=by
 obtain⟨c,t,hc,ht,h1,h2,rfl⟩:=iB.mp hk
 have r1:=lD.r1
 have xa:On a.length V (a.length - 1,c):=⟨by show a.length - 1<_;omega,hc⟩
 have xb:On b.length V (0,t):=⟨lF.r1,ht⟩
 obtain⟨m,r,m1,m2,m3,m4,m5,m6⟩:=uX hw na xa
 obtain⟨n,q,n1,n2,n3,n4,n5,n6⟩:=uX hw nb xb
 let ρ:aX:=vM s B w z x4 (fz (brd a)) (fz (brd b)) (fz K) x8 x9 (fz (.lst ((ax a V w).map cL))) (fz (.lst ((ax b V w).map cL))) (fz (.int (fa (a.length - 1,c):Int))) (fz (.int (fb (0,t):Int))) Kk
 have ea:d2 fI (dV 10) (dV 12) ρ=M.ret (cL (m::r)):=(aL (x:= .lst ((ax a V w).map cL)) (y:= .int (fa (a.length - 1,c):Int)) rfl rfl).trans m1
 have eb:d2 fI (dV 11) (dV 13) ρ=M.ret (cL (n::q)):=(aL (x:= .lst ((ax b V w).map cL)) (y:= .int (fb (0,t):Int)) rfl rfl).trans n1
 refine(bB (ρ':=ρ) ?_).trans rfl
 exact cI (ek ((aL (x:=sg (lt a m)) (y:=sg (lt b n)) ((ak (ds:=[brd a,cD m]) (aJ rfl (aJ ((aL ea (y:= .int 0) rfl).trans (Bm (l:=m::r) (i:=0) rfl)) rfl)) rfl).trans (lJ lD m2)) ((ak (ds:=[brd b,cD n]) (aJ rfl (aJ ((aL eb (y:= .int 0) rfl).trans (Bm (l:=n::q) (i:=0) rfl)) rfl)) rfl).trans (lJ lF n2))).trans ((rH xH (by decide) _ _).trans (by rw[m3,n3,h1,decide_eq_true rfl];rfl)))) rfl
theorem Ap(lF:Brd bd V)(h5:V≤5)(h6:bd.length≤6)(hw:Ways w)(s:D){k:Nat}(k1:1≤k)(k2:k<bd.length):
 Ir (vM s (brd bd) w (.lst ((dq (gf bd V w)).map D.int)) (fz (.int (k:Int))) none none none none none none none none none none)=M.ret (.nx (vM s (brd bd) w (.lst ((dq (gf bd V w)).map D.int)) none none none none none none none none none none none)):=by
 have ha:=DB lF h5 k1 k2 h6
 have hb:=Dz lF h5 k1 k2 h6
 have e:bd.take k++bd.drop k=bd:=List.take_append_drop ..
 have OP:(bd.take k).length=k:=by rw[List.length_take];omega
 have P4:(bd.drop k).length=bd.length - k:=List.length_drop ..
 let Z:D:= .lst ((dq (gf bd V w)).map D.int)
 obtain⟨s1,s2⟩:=mL (bd:=bd) (i:=1) (ρ:=vM s (brd bd) w Z (fz (.int (k:Int))) none none none none none none none none none none) (δ:=dV 4) (k:=k) rfl (by omega) rfl
 obtain⟨_,s3⟩:=mL (bd:=bd) (i:=1) (ρ:=vM s (brd bd) w Z (fz (.int (k:Int))) (fz (brd (bd.take k))) none none none none none none none none none) (δ:=dV 4) (k:=k) rfl (by omega) rfl
 have xR:bd.length*V<64:=by
  have:=Nat.mul_le_mul h6 h5
  omega
 generalize bd.take k=a at*
 generalize bd.drop k=b at*
 subst e
 subst OP
 have h8:a.length+b.length≤8:=by omega
 obtain⟨ka,kb,fa,fb,na,nb,es⟩:=j7 ha hb hw h8
 obtain⟨KP,KQ,F4,F7,Ia,Ib,Fi⟩:=j7 (qw ha) (qw hb) hw (by rw[cQ,cQ];exact h8)
 have KG:∀r∈a,r.length=V:=fun r hr=>(ha.rows r hr).len
 have KH:∀r∈b,r.length=V:=fun r hr=>(hb.rows r hr).len
 have q1:=Ca hw KG KH na nb Ia Ib ha.r1 hb.r1
 have q3:=DX hw ha.r1 na nb
 have q4:=DY (fa:=fa) hw ha.brd hb.brd nb
 have q5:=Dj (a:=a) (b:=b) (V:=V) hw
 let K:=zM a b w fa fb V
 have Of:K.Nodup:=sY ..
 have PV:K.length≤25:=EB h5
 have I_:(cM K).length=K.length:=kF _
 let A:=(ax a V w).length
 let B:=(ax b V w).length
 let N:=(ax (a++b) V w).length
 let ρ7:Option Sl→Option Sl→Option Sl→Option Sl→aX:=fun x8 x9 MK ML=>vM s (brd (a++b)) w Z (fz (.int (a.length:Int))) (fz (brd a)) (fz (brd b)) (fz (cL (cM K))) x8 x9 MK ML none none none
 have hm:∀{i:Nat}{c:List Str}(ρ:aX),Brd c V→c.length*V<64→dV i ρ=M.ret (brd c)→dV 2 ρ=M.ret (.int (w:Int))→ah 2 bG (aC (dV i) (aC (dV 2) aN)) ρ=M.ret (.int ((ax c V w).length:Int)):=fun {i c} ρ hc DH g1 g2=>(ak (ds:=[brd c, .int (w:Int)]) (aJ g1 (aJ g2 rfl)) rfl).trans (rT hc DH hw)
 refine(bB (ρ':=ρ7 (fz (.int ((A:Int)+(B:Int)))) (fz (.int (N:Int))) (fz (.lst ((ax a V w).map cL))) (fz (.lst ((ax b V w).map cL)))) ?_).trans rfl
 refine aj (ρ':=vM s (brd (a++b)) w Z (fz (.int (a.length:Int))) (fz (brd a)) none none none none none none none none none) ((aM s1).trans rfl) ?_
 refine aj (ρ':=vM s (brd (a++b)) w Z (fz (.int (a.length:Int))) (fz (brd a)) (fz (brd b)) none none none none none none none none) ((aM s3).trans rfl) ?_
 refine aj (ρ':=ρ7 none none none none) ((aM ((ak (ds:=[brd a,brd b, .int (w:Int)]) rfl rfl).trans es)).trans rfl) ?_
 refine aj (ρ':=ρ7 (fz (.int ((A:Int)+(B:Int)))) none none none) ((aM ((aL (hm _ ha.brd (ix ha) rfl rfl) (hm _ hb.brd (ix hb) rfl rfl)).trans rfl)).trans rfl) ?_
 refine aj (ρ':=ρ7 (fz (.int ((A:Int)+(B:Int)))) (fz (.int (N:Int))) none none) ((aM ((ak (ds:=[brd a,brd b, .int (w:Int)]) rfl rfl).trans (xP ha.brd hb.brd hw h8 xR))).trans rfl) ?_
 refine aj (cI ((t7 (p:=false) (q:=false) (ek ((aL (y:=brd (a++b)) ((ak (ds:=[brd a,brd b]) rfl rfl).trans (zT ha.brd hb.brd h8)) rfl).trans ((rH Ds (by decide) _ _).trans (by rw[decide_eq_true rfl];rfl)))) ((t7 (p:=false) (q:=false) (ek ((aL (x:= .int (N:Int)) rfl (hm _ lF xR rfl rfl)).trans ((qB _ _).trans (by rw[beq_self_eq_true];rfl)))) (ek ((aL (y:=Z) ((ak (ds:=[brd a,brd b, .int (w:Int)]) rfl rfl).trans (qX ha.brd hb.brd hw h8 xR)) rfl).trans ((rH (mF xG) (by decide) _ _).trans (by rw[decide_eq_true rfl];rfl))))).trans rfl)).trans rfl) rfl) ?_
 have q3:A+B≤N+K.length:=q3
 have q5:N≤A+B:=q5
 refine aj (cI ((t7 (p:=false) (q:=false) (ek ((aL (x:= .int (N:Int)) (y:= .int ((A:Int)+(B:Int) - (K.length:Int))) rfl ((aL (x:= .int ((A:Int)+(B:Int))) rfl (D3 (l:=cM K) rfl)).trans (by rw[I_];rfl))).trans ((ltZ _ _).trans (by rw[decide_eq_false (by omega)])))) ((t7 (vX (ek ((aL (x:=cL (cM K)) (y:=cL []) rfl rfl).trans (ID _ _))) (ek ((aL (x:= .int (N:Int)) (y:= .int ((A:Int)+(B:Int))) rfl rfl).trans (ne_int _ _)))) (vX (ek ((aL (y:= .int ((0:Nat):Int)) (D3 (l:=cM K) rfl) rfl).trans (JA _ _))) (ek ((aL (x:= .int (N:Int)) (y:= .int ((A:Int)+(B:Int))) rfl rfl).trans (N_ _ _))))).trans ?_)).trans rfl) rfl) ?_
 ·by_cases hK:K=[]
  ·have e1:(cM K).length=0:=by rw[I_,hK];rfl
   have e2:K.length=0:=by rw[hK];rfl
   have e3:(N:Int)=(A:Int)+(B:Int):=by omega
   rw[e1,e3,beq_self_eq_true]
   simp
  ·have e1:0<K.length:=List.length_pos_iff.mpr hK
   have e2:N<A+B:=q4 hK
   have e3:¬cM K=[]:=fun z=>by rw[z] at I_;simp at I_;omega
   rw[decide_eq_false e3,decide_eq_false (show¬((A:Int)+(B:Int)≤(N:Int)) by omega)]
   simp
 refine aj (cI ((t7 (p:=false) (q:=false) (ek ((aL (D3 ((ak (ds:=[brd (dO a),brd (dO b), .int (w:Int)]) (aJ ((ak (ds:=[brd a]) rfl rfl).trans (jF ha.brd)) (aJ ((ak (ds:=[brd b]) rfl rfl).trans (jF hb.brd)) (aJ rfl rfl))) rfl).trans Fi)) (D3 (l:=cM K) rfl)).trans ((qB _ _).trans (by rw[kF,I_,q1,beq_self_eq_true];rfl)))) (ek ((aL (x:=cL (cM K)) rfl (CL (gB Of) (by omega) fun x hx=>?_)).trans ((JC _ _).trans (by rw[decide_eq_true rfl];rfl))))).trans rfl) rfl) ?_
 ·obtain⟨c,t,c1,c2,_,_,rfl⟩:=iB.mp (fM.mp hx)
  have r1:=ha.r1
  exact⟨yg na ha ⟨by show a.length - 1<_;omega,c1⟩,yg nb hb ⟨hb.r1,c2⟩⟩
 refine aj (ρ':=ρ7 (fz (.int ((A:Int)+(B:Int)))) (fz (.int (N:Int))) (fz (.lst ((ax a V w).map cL))) none) ((aM ((ak (ds:=[brd a, .int (w:Int)]) rfl rfl).trans (fi ha.brd (ix ha) hw))).trans rfl) ?_
 refine aj (ρ':=ρ7 (fz (.int ((A:Int)+(B:Int)))) (fz (.int (N:Int))) (fz (.lst ((ax a V w).map cL))) (fz (.lst ((ax b V w).map cL)))) ((aM ((ak (ds:=[brd b, .int (w:Int)]) rfl rfl).trans (fi hb.brd (ix hb) hw))).trans rfl) ?_
 exact fV (ds:=(cM K).map cD) (ND (i:=7) rfl) (ku (body:=GI) cD _ (cM K) fun x hx=>⟨_,rfl,Bb ha.brd hb.brd hw na nb (fM.mp hx) ..⟩)
end
section
open Classical
def o8:List Str:=["bbbbba","aaabba","abaaaa"]
theorem D1:Brd o8 6:=by
 refine⟨by decide,by decide,by decide,by decide,fun r hr=>?_⟩
 have h:r="bbbbba"∨r="aaabba"∨r="abaaaa":=by simpa[o8] using hr
 rcases h with rfl | rfl | rfl
 ·exact⟨rfl,by decide+kernel⟩
 ·exact⟨rfl,by decide+kernel⟩
 ·exact⟨rfl,by decide+kernel⟩
theorem tR{bd:List Str}{V:Nat}(hg:Brd bd V){k:Nat}(h1:1≤k):Brd (bd.take k) V:=⟨by have:=hg.r1;rw[List.length_take];omega,by have:=hg.r8;rw[List.length_take];omega,hg.w1,hg.w8,fun r hr=>hg.rows r (List.take_subset _ _ hr)⟩
theorem Aq{bd:List Str}{V:Nat}(hg:Brd bd V){k:Nat}(h1:k<bd.length):Brd (bd.drop k) V:=⟨by rw[List.length_drop];omega,by have:=hg.r8;rw[List.length_drop];omega,hg.w1,hg.w8,fun r hr=>hg.rows r (List.drop_subset _ _ hr)⟩
theorem Bp(ns:List Int)(hl:ns.length≤63):iw [.scr ns]=M.ret (.bl true):=by
 obtain⟨b0,V,hG,eb⟩:=yH ns hl 0 5 (by decide) (by decide)
 have r5:=hG.r5
 have r1:=hG.r1
 have w5:=hG.w5
 obtain⟨v,hv,ev⟩:=fH ns hl 60 2 (by decide)
 obtain⟨w,hw,ew⟩:∃w,Ways w∧fI (.lst [.int 4, .int 8]) (.int (v:Int))=M.ret (.int (w:Int)):=by
  match v,hv with
  |0,_=>exact⟨4, .inl rfl,rfl⟩
  |1,_=>exact⟨8, .inr rfl,rfl⟩
 have Ab:(b0.take 1).length=1:=by rw[List.length_take];omega
 obtain⟨s1,_⟩:=mL (bd:=b0) (i:=1) (ρ:=[fz (.scr ns),fz (brd b0),none,none,none,none,none,none,none,none,none,none,none,none,none]) (δ:=dC (.int 1)) (k:=1) rfl r1 rfl
 have hg:Brd (b0++b0.take 1) V:=hG.brd.app (tR hG.brd (Nat.le_refl _)) (by omega)
 have h6:(b0++b0.take 1).length≤6:=by rw[List.length_append];omega
 have Nf:gE (brd b0) (brd (b0.take 1))=M.ret (brd (b0++b0.take 1)):=rF (by omega)
 refine a_ ?_
 refine aj (ρ':=[fz (.scr ns),fz (brd b0),none,none,none,none,none,none,none,none,none,none,none,none,none]) ((aM ((ak (ds:=[.scr ns, .int 0, .int 5]) rfl rfl).trans eb)).trans rfl) ?_
 refine aj (ρ':=[fz (.scr ns),fz (brd (b0++b0.take 1)),none,none,none,none,none,none,none,none,none,none,none,none,none]) ((aM ((aL (x:=brd b0) rfl s1).trans Nf)).trans rfl) ?_
 generalize b0++b0.take 1=bd at*
 have hs:bd.length*V<64:=by
  have:=Nat.mul_le_mul h6 w5
  omega
 let Z:D:= .lst ((dq (gf bd V w)).map D.int)
 refine aj (ρ':=[fz (.scr ns),fz (brd bd),fz (.int (w:Int)),none,none,none,none,none,none,none,none,none,none,none,none]) ((aM ((aL (x:= .lst [.int 4, .int 8]) (y:= .int (v:Int)) rfl ((ak (ds:=[.scr ns, .int 60, .int 2]) rfl rfl).trans ev)).trans ew)).trans rfl) ?_
 refine aj (ρ':=vM (.scr ns) (brd bd) w Z none none none none none none none none none none none) ((aM (nH hs ((ak (ds:=[brd bd, .int (w:Int)]) rfl rfl).trans (fi hg hs hw)))).trans rfl) ?_
 have Lg:yx [Z]=M.ret (.int ((bd.length*V:Nat):Int)):=by
  show (match nums ((dq (gf bd V w)).map D.int) with | some ns=>M.ret (D.int ns.sum) | none=>M.stuck)=_
  rw[kK]
  show M.ret (D.int (dq (gf bd V w)).sum)=_
  rw[CN hg hw]
 have P9:=hg.r8
 have P8:=hg.r1
 refine aj (cI (ek ((aL (x:= .int ((bd.length*V:Nat):Int)) (y:= .int ((bd.length*V:Nat):Int)) ((cu (xs:=[Z]) rfl).trans Lg) ((aL (rY (i:=1) rfl) (hg.len0 (i:=1) rfl)).trans ((eP (i:=(bd.length:Int)) (j:=(V:Int)) (.inl ⟨by omega,by omega⟩)).trans (by rw[Int.natCast_mul])))).trans ((qB _ _).trans (by rw[beq_self_eq_true];rfl)))) rfl) ?_
 refine aj (ρ':=vM (.scr ns) (brd bd) w Z none none none none none none none none none none none) (fe (fV (HA (i:=1) (j:=bd.length) rfl (rY (i:=1) rfl) (by decide) (by omega)) (ku (body:=Ir) (fun (k:Nat)=>D.int (k:Int)) _ (List.range' 1 (bd.length - 1)) fun k hk=>⟨_,rfl,Ap hg w5 h6 hw _ (List.mem_range'_1.mp hk).1 (by have:=(List.mem_range'_1.mp hk).2;omega)⟩))) ?_
 have hk:=D1
 have h4:Ways 4:= .inl rfl
 have DJ:o8.length*6<64:=by decide
 let Y:D:= .lst ((dq (gf o8 6 4)).map D.int)
 refine aj (ρ':=vM (.scr ns) (brd bd) w Z none none none none none none none none none none (fz (brd o8))) ((aM (d:=brd o8) rfl).trans rfl) ?_
 refine aj (ρ':=vM (.scr ns) (brd bd) w Y none none none none none none none none none none (fz (brd o8))) ((aM (nH DJ ((ak (ds:=[brd o8, .int ((4:Nat):Int)]) rfl rfl).trans (fi hk DJ h4)))).trans rfl) ?_
 obtain⟨t1,t2⟩:=mL (bd:=o8) (i:=14) (ρ:=vM (.scr ns) (brd bd) w Y none none none none none none none none none none (fz (brd o8))) (δ:=dC (.int 2)) (k:=2) rfl (by decide) rfl
 have ha:=tR hk (k:=2) (by decide)
 have hb:=Aq hk (k:=2) (by decide)
 have yY:o8.take 2++o8.drop 2=o8:=List.take_append_drop ..
 have h8:(o8.take 2).length+(o8.drop 2).length≤8:=by decide
 have e1:=xP ha hb h4 h8 (by rw[yY];exact DJ)
 have e2:=qX ha hb h4 h8 (by rw[yY];exact DJ)
 rw[yY] at e1 e2
 have NZ:dA aU (aC (dV 3) aN) (vM (.scr ns) (brd bd) w Y none none none none none none none none none none (fz (brd o8)))=M.ret (.int ((ax o8 6 4).length:Int)):=by
  refine(cu (xs:=[Y]) rfl).trans ?_
  show M.ret (D.int (((dq (gf o8 6 4)).map D.int).length:Int))=_
  rw[List.length_map,(d3 _).length_eq]
  unfold gf
  rw[List.length_map]
 refine aj (cI (ek ((aL ((ak (ds:=[brd (o8.take 2),brd (o8.drop 2), .int ((4:Nat):Int)]) (aJ t1 (aJ t2 rfl)) rfl).trans e1) NZ).trans ((qB _ _).trans (by rw[beq_self_eq_true];rfl)))) rfl) ?_
 exact aE ((aL (y:=Y) ((ak (ds:=[brd (o8.take 2),brd (o8.drop 2), .int ((4:Nat):Int)]) (aJ t1 (aJ t2 rfl)) rfl).trans e2) rfl).trans ((AM (mF xG) (by decide) _ _).trans (by rw[decide_eq_true rfl])))
end
end K1
namespace K1
open PySem PySem.Spec L2 L3
open PyProof.Rows hiding St
def DF(K:W.Frag)(x:Str)(s:Stmt):Prop:=∃(f:Addr) (oc:Value) (od an:Option Addr) (sl:Array (Option Value)) (kV dc pm cd ct:Value),PySem.W.nsIn K mainGlobals x=some (some (.ref f))∧K.lookup f=some ⟨oc,od, .func (PySem.W.fnOf x x (d4 s) (bf s) (af s) .none kV dc pm an cd ct),sl⟩∧PySem.W.codeIn K cd x=true∧PySem.W.keepIn K (.ref f)=true
theorem DF.mk{K:W.Frag}{x:Str}{s:Stmt}{f:Addr}{oc:Value}{od an:Option Addr}{sl:Array (Option Value)}{kV dc pm cd ct:Value}(a:PySem.W.nsIn K mainGlobals x=some (some (.ref f)))(l:K.lookup f=some ⟨oc,od, .func (PySem.W.fnOf x x (d4 s) (bf s) (af s) .none kV dc pm an cd ct),sl⟩)(c:PySem.W.codeIn K cd x=true)(k:PySem.W.keepIn K (.ref f)=true):DF K x s:=⟨f,oc,od,an,sl,kV,dc,pm,cd,ct,a,l,c,k⟩
theorem DF.at{K:W.Frag}{x:Str}{s:Stmt}{h:Heap}{mg:Str→Option Value}(X:K.In h)(G:h.Ns mainGlobals mg)(d:DF K x s):∃f,bw K mg x s f:=by
 obtain⟨f,oc,od,an,sl,kV,dc,pm,cd,ct,a,l,c,k⟩:=d
 exact⟨f,PySem.W.mg_of X G a,_,AV (st:=s) l c k⟩
theorem all_mk{P:Program}{w:World}{K:W.Frag}{h:Heap}{mg:Str→Option Value}{fa:Addr}(X:K.In h)(G:h.Ns mainGlobals mg)(Oz:mg "law"=some (.ref fa))
 {i7:Addr}{wD mN:Option Addr}{w9:Array (Option Value)}{wC ny mY oB i4 mX:Value}
 {zU:Tok}
 {vy:Tok}
 {oV:Tok}
 (d_is_whole:DF K "is_whole" jd)
 (d_is_letter:DF K "is_letter" hJ)
 (d_need_fit:DF K "need_fit" jf)
 (d_cells_of_row:DF K "cells_of_row" dH)
 (d_letter_of:DF K "letter_of" h7)
 (d_are_next:DF K "are_next" jb)
 (d_keyed:DF K "keyed" sS)
 (d_numbers_of:DF K "numbers_of" gx)
 (d_law_cell:DF K "_law_cell" je)
 (d_is_row:DF K "is_row" j5)
 (d_is_cell:DF K "is_cell" k7)
 (d_need_ways:DF K "need_ways" ie)
 (d_all_cells:DF K "all_cells" g_)
 (d_next_cells:DF K "next_cells" gw)
 (d_meets_below:DF K "meets_below" fB)
 (d_law_drawn:DF K "_law_drawn" hX)
 (d_is_board:DF K "is_board" eT)
 (d_need_cell:DF K "need_cell" h9)
 (d_like_cells:DF K "like_cells" eE)
 (d_law_board:DF K "_law_board" fo)
 (d_need_board:DF K "need_board" gu)
 (d_steps_back:DF K "steps_back" gy)
 (d_letter_at:DF K "letter_at" hZ)
 (d_mirrored:DF K "mirrored" gr)
 (d_stacked:DF K "stacked" k9)
 (d_all_patches:DF K "all_patches" fw)
 (d_need_two_boards:DF K "need_two_boards" dI)
 (d_patches:DF K "patches" k8)
 (d_how_many:DF K "how_many" jc)
 (d_seam:DF K "seam" wX)
 (d_how_many_together:DF K "how_many_together" cX)
 (d_sizes_together:DF K "sizes_together" cT)
 (a_law_k61:PySem.W.nsIn K mainGlobals "law"=some (some (.ref i7)))(l_law_k61:K.lookup i7=some ⟨wC,wD, .func (PySem.W.fnOf "law" "law" (d4 au) (bf au) (af au) .none ny mY oB mN i4 mX),w9⟩)(c_law_k61:PySem.W.codeIn K i4 "law"=true)(k_law_k61:PySem.W.keepIn K (.ref i7)=true)
 (z_len:PySem.W.nsIn K mainGlobals "len"=some none)
 (z_isinstance:PySem.W.nsIn K mainGlobals "isinstance"=some none)
 (z_all:PySem.W.nsIn K mainGlobals "all"=some none)
 (z_abs:PySem.W.nsIn K mainGlobals "abs"=some none)
 (z_max:PySem.W.nsIn K mainGlobals "max"=some none)
 (z_min:PySem.W.nsIn K mainGlobals "min"=some none)
 (z_sum:PySem.W.nsIn K mainGlobals "sum"=some none)
 (z_range:PySem.W.nsIn K mainGlobals "range"=some none)
 (z_str:PySem.W.nsIn K mainGlobals "str"=some none)
 (z_int:PySem.W.nsIn K mainGlobals "int"=some none)
 (z_bool:PySem.W.nsIn K mainGlobals "bool"=some none)
 (z_tuple:PySem.W.nsIn K mainGlobals "tuple"=some none)
 (z_set:PySem.W.nsIn K mainGlobals "set"=some none)
 (z_sorted:PySem.W.nsIn K mainGlobals "sorted"=some none)
 (z_enumerate:PySem.W.nsIn K mainGlobals "enumerate"=some none)
 (y_LETTERS:PySem.W.nsIn K mainGlobals "LETTERS"=some (some (.str "abcdef" zU)))
 (y_MOST_ROWS:PySem.W.nsIn K mainGlobals "MOST_ROWS"=some (some (.int 8 vy)))
 (y_MOST_COLUMNS:PySem.W.nsIn K mainGlobals "MOST_COLUMNS"=some (some (.int 8 oV))):
 ∃(cv:Nat→Value) (fd:FuncData),(∀(s:Shared) (u:Value),BindsTo s fd ⟨[u],[]⟩ [("_law_script",u)])∧∀base:Heap,K.In base→base.Ns mainGlobals mg→FnOk P w K mg base (lr P w cv) 7 fa fd ["_law_script"] (Ie K cv 1 iw):=by
 have ea:=Oz.symm.trans (PySem.W.mg_of X G a_law_k61)
 cases ea
 refine⟨fun _=> .none,PySem.W.fnOf "law" "law" (d4 au) (bf au) (af au) .none ny mY oB mN i4 mX,fun s v=> .of_eq rfl,fun base KB GB=>?_⟩
 have B:Bl K mg base (fun _=> .none) (fun _=>mainGlobals) mainGlobals:=⟨PySem.W.mg_none_of X G z_len,PySem.W.mg_none_of X G z_isinstance,PySem.W.mg_none_of X G z_all,PySem.W.mg_none_of X G z_abs,PySem.W.mg_none_of X G z_max,PySem.W.mg_none_of X G z_min,PySem.W.mg_none_of X G z_sum,PySem.W.mg_none_of X G z_range,PySem.W.mg_none_of X G z_str,PySem.W.mg_none_of X G z_int,PySem.W.mg_none_of X G z_bool,PySem.W.mg_none_of X G z_tuple,PySem.W.mg_none_of X G z_set,PySem.W.mg_none_of X G z_sorted,PySem.W.mg_none_of X G z_enumerate,⟨_,PySem.W.mg_of X G y_LETTERS⟩,⟨_,PySem.W.mg_of X G y_MOST_ROWS⟩,⟨_,PySem.W.mg_of X G y_MOST_COLUMNS⟩⟩
 have nY:=(DF.at X G d_is_whole).elim fun _ t=>uQ (P:=P) (w:=w) B t
 have uI:=(DF.at X G d_is_letter).elim fun _ t=>sj (P:=P) (w:=w) B t
 have nZ:=(DF.at X G d_need_fit).elim fun _ t=>uT (P:=P) (w:=w) B t
 have gS:=(DF.at X G d_cells_of_row).elim fun _ t=>my (P:=P) (w:=w) B t
 have gT:=(DF.at X G d_letter_of).elim fun _ t=>sq (P:=P) (w:=w) B t
 have nX:=(DF.at X G d_are_next).elim fun _ t=>uN (P:=P) (w:=w) B t
 have D8:=(DF.at X G d_keyed).elim fun _ t=>BH (P:=P) (w:=w) B t
 have se:=(DF.at X G d_numbers_of).elim fun _ t=>pH (P:=P) (w:=w) B t
 have wA:=(DF.at X G d_law_cell).elim fun _ t=>uR (P:=P) (w:=w) B t
 have BG:=(DF.at X G d_is_row).elim fun _ t=>zA (P:=P) (w:=w) B uI t
 have zv:=(DF.at X G d_is_cell).elim fun _ t=>wF (P:=P) (w:=w) B nY t
 have gU:=(DF.at X G d_need_ways).elim fun _ t=>su (P:=P) (w:=w) B nY t
 have uH:=(DF.at X G d_all_cells).elim fun _ t=>si (P:=P) (w:=w) B gS t
 have sd:=(DF.at X G d_next_cells).elim fun _ t=>pG (P:=P) (w:=w) B nX t
 have pD:=(DF.at X G d_meets_below).elim fun _ t=>n8 (P:=P) (w:=w) B nX t
 have lT:=(DF.at X G d_law_drawn).elim fun _ t=>sm (P:=P) (w:=w) B wA t
 have wz:=(DF.at X G d_is_board).elim fun _ t=>uP (P:=P) (w:=w) B BG t
 have uL:=(DF.at X G d_need_cell).elim fun _ t=>sr (P:=P) (w:=w) B zv t
 have r_:=(DF.at X G d_like_cells).elim fun _ t=>pE (P:=P) (w:=w) B gT sd t
 have uJ:=(DF.at X G d_law_board).elim fun _ t=>sk (P:=P) (w:=w) B lT t
 have cS:=(DF.at X G d_need_board).elim fun _ t=>pF (P:=P) (w:=w) B wz t
 have sf:=(DF.at X G d_steps_back).elim fun _ t=>pI (P:=P) (w:=w) B r_ t
 have uK:=(DF.at X G d_letter_at).elim fun _ t=>so (P:=P) (w:=w) B cS uL gT t
 have wB:=(DF.at X G d_mirrored).elim fun _ t=>uS (P:=P) (w:=w) B cS t
 have zx:=(DF.at X G d_stacked).elim fun _ t=>wH (P:=P) (w:=w) B cS nZ t
 have c8:=(DF.at X G d_all_patches).elim fun _ t=>n0 (P:=P) (w:=w) B uH sf D8 t
 have dE:=(DF.at X G d_need_two_boards).elim fun _ t=>i9 (P:=P) (w:=w) B cS gU nZ t
 have zw:=(DF.at X G d_patches).elim fun _ t=>wG (P:=P) (w:=w) B cS gU c8 t
 have wy:=(DF.at X G d_how_many).elim fun _ t=>uO (P:=P) (w:=w) B cS gU c8 t
 have G2:=(DF.at X G d_seam).elim fun _ t=>D_ (P:=P) (w:=w) B dE se gS c8 pD gT t
 have iN:=(DF.at X G d_how_many_together).elim fun _ t=>gW (P:=P) (w:=w) B dE c8 t
 have kL:=(DF.at X G d_sizes_together).elim fun _ t=>jN (P:=P) (w:=w) B dE c8 t
 exact uM B uJ lT G2 iN zw kL wy zx uK wB (AV (st:=au) l_law_k61 c_law_k61 k_law_k61)
end K1
open PySem PySem.W PyProof.Rows
set_option maxHeartbeats 0 in
theorem PySem.Challenge.cw_cellpatches_k61_whole_scanning_holds : PySem.Challenge.rw_cellpatches_k61_whole_scanning.Holds := by
 w_on;o_law
 refine holds_open (q:=K1.vB) (loose:=[]) (Xt:=fun s=>xlAt K1.vB [] s&&recOk (RowW.records (OpenRow.toRowW _)) s) (XP:=XL K1.vB []) (Yf:=Hook.obs (kHook K1.ni K1.nh (fun _=>by kernel_rfl))) (Ya:=Hook.val (kHook K1.ni K1.nh (fun _=>by kernel_rfl))) (YP:=Hook.says (kHook K1.ni K1.nh (fun _=>by kernel_rfl))) (N:=4446) ?hl (Hook.of (kHook K1.ni K1.nh (fun _=>by kernel_rfl))) (Hook.keeps (kHook K1.ni K1.nh (fun _=>by kernel_rfl))) (fun s e=>xl_of s (Bool.and_eq_true_iff.mp e).1) XL.keeps (by rfl) (by rfl) (by rfl) (fun s e=>recFacts_of (Bool.and_eq_true_iff.mp e).2) (by rfl) (by first | assumption | decide+kernel) (by decide+kernel) ⟨rfl,rfl,rfl,rfl,rfl,by decide+kernel⟩ ?hw ?hc
 case hl=>exact K1.Ja
 (case hw=>w_witness2)
 k_fill
 refine L3.Kj (l:=PySem.Challenge.rw_cellpatches_k61_whole_scanning) (k:=7) (n:=63) (x:="_law_script") (g:=K1.iw) rfl (by decide) rfl ⟨rfl,by decide,by decide⟩ (fun w h Y=>PySem.W.kIn_of Y) K1.Bp ?F
 case F=>
  intro w mg fa h KX G Gu
  refine' K1.all_mk KX G Gu ?d_is_whole ?d_is_letter ?d_need_fit ?d_cells_of_row ?d_letter_of ?d_are_next ?d_keyed ?d_numbers_of ?d_law_cell ?d_is_row ?d_is_cell ?d_need_ways ?d_all_cells ?d_next_cells ?d_meets_below ?d_law_drawn ?d_is_board ?d_need_cell ?d_like_cells ?d_law_board ?d_need_board ?d_steps_back ?d_letter_at ?d_mirrored ?d_stacked ?d_all_patches ?d_need_two_boards ?d_patches ?d_how_many ?d_seam ?d_how_many_together ?d_sizes_together ?a_law_k61 ?l_law_k61 ?c_law_k61 ?k_law_k61 ?z_len ?z_isinstance ?z_all ?z_abs ?z_max ?z_min ?z_sum ?z_range ?z_str ?z_int ?z_bool ?z_tuple ?z_set ?z_sorted ?z_enumerate ?y_LETTERS ?y_MOST_ROWS ?y_MOST_COLUMNS
  (case d_is_whole=>(refine' K1.DF.mk ?a ?l ?c ?k;(case a=>k_is);(case l=>k_is);(case c=>k_is);(case k=>k_is)))
  (case d_is_letter=>(refine' K1.DF.mk ?a ?l ?c ?k;(case a=>k_is);(case l=>k_is);(case c=>k_is);(case k=>k_is)))
  (case d_need_fit=>(refine' K1.DF.mk ?a ?l ?c ?k;(case a=>k_is);(case l=>k_is);(case c=>k_is);(case k=>k_is)))
  (case d_cells_of_row=>(refine' K1.DF.mk ?a ?l ?c ?k;(case a=>k_is);(case l=>k_is);(case c=>k_is);(case k=>k_is)))
  (case d_letter_of=>(refine' K1.DF.mk ?a ?l ?c ?k;(case a=>k_is);(case l=>k_is);(case c=>k_is);(case k=>k_is)))
  (case d_are_next=>(refine' K1.DF.mk ?a ?l ?c ?k;(case a=>k_is);(case l=>k_is);(case c=>k_is);(case k=>k_is)))
  (case d_keyed=>(refine' K1.DF.mk ?a ?l ?c ?k;(case a=>k_is);(case l=>k_is);(case c=>k_is);(case k=>k_is)))
  (case d_numbers_of=>(refine' K1.DF.mk ?a ?l ?c ?k;(case a=>k_is);(case l=>k_is);(case c=>k_is);(case k=>k_is)))
  (case d_law_cell=>(refine' K1.DF.mk ?a ?l ?c ?k;(case a=>k_is);(case l=>k_is);(case c=>k_is);(case k=>k_is)))
  (case d_is_row=>(refine' K1.DF.mk ?a ?l ?c ?k;(case a=>k_is);(case l=>k_is);(case c=>k_is);(case k=>k_is)))
  (case d_is_cell=>(refine' K1.DF.mk ?a ?l ?c ?k;(case a=>k_is);(case l=>k_is);(case c=>k_is);(case k=>k_is)))
  (case d_need_ways=>(refine' K1.DF.mk ?a ?l ?c ?k;(case a=>k_is);(case l=>k_is);(case c=>k_is);(case k=>k_is)))
  (case d_all_cells=>(refine' K1.DF.mk ?a ?l ?c ?k;(case a=>k_is);(case l=>k_is);(case c=>k_is);(case k=>k_is)))
  (case d_next_cells=>(refine' K1.DF.mk ?a ?l ?c ?k;(case a=>k_is);(case l=>k_is);(case c=>k_is);(case k=>k_is)))
  (case d_meets_below=>(refine' K1.DF.mk ?a ?l ?c ?k;(case a=>k_is);(case l=>k_is);(case c=>k_is);(case k=>k_is)))
  (case d_law_drawn=>(refine' K1.DF.mk ?a ?l ?c ?k;(case a=>k_is);(case l=>k_is);(case c=>k_is);(case k=>k_is)))
  (case d_is_board=>(refine' K1.DF.mk ?a ?l ?c ?k;(case a=>k_is);(case l=>k_is);(case c=>k_is);(case k=>k_is)))
  (case d_need_cell=>(refine' K1.DF.mk ?a ?l ?c ?k;(case a=>k_is);(case l=>k_is);(case c=>k_is);(case k=>k_is)))
  (case d_like_cells=>(refine' K1.DF.mk ?a ?l ?c ?k;(case a=>k_is);(case l=>k_is);(case c=>k_is);(case k=>k_is)))
  (case d_law_board=>(refine' K1.DF.mk ?a ?l ?c ?k;(case a=>k_is);(case l=>k_is);(case c=>k_is);(case k=>k_is)))
  (case d_need_board=>(refine' K1.DF.mk ?a ?l ?c ?k;(case a=>k_is);(case l=>k_is);(case c=>k_is);(case k=>k_is)))
  (case d_steps_back=>(refine' K1.DF.mk ?a ?l ?c ?k;(case a=>k_is);(case l=>k_is);(case c=>k_is);(case k=>k_is)))
  (case d_letter_at=>(refine' K1.DF.mk ?a ?l ?c ?k;(case a=>k_is);(case l=>k_is);(case c=>k_is);(case k=>k_is)))
  (case d_mirrored=>(refine' K1.DF.mk ?a ?l ?c ?k;(case a=>k_is);(case l=>k_is);(case c=>k_is);(case k=>k_is)))
  (case d_stacked=>(refine' K1.DF.mk ?a ?l ?c ?k;(case a=>k_is);(case l=>k_is);(case c=>k_is);(case k=>k_is)))
  (case d_all_patches=>(refine' K1.DF.mk ?a ?l ?c ?k;(case a=>k_is);(case l=>k_is);(case c=>k_is);(case k=>k_is)))
  (case d_need_two_boards=>(refine' K1.DF.mk ?a ?l ?c ?k;(case a=>k_is);(case l=>k_is);(case c=>k_is);(case k=>k_is)))
  (case d_patches=>(refine' K1.DF.mk ?a ?l ?c ?k;(case a=>k_is);(case l=>k_is);(case c=>k_is);(case k=>k_is)))
  (case d_how_many=>(refine' K1.DF.mk ?a ?l ?c ?k;(case a=>k_is);(case l=>k_is);(case c=>k_is);(case k=>k_is)))
  (case d_seam=>(refine' K1.DF.mk ?a ?l ?c ?k;(case a=>k_is);(case l=>k_is);(case c=>k_is);(case k=>k_is)))
  (case d_how_many_together=>(refine' K1.DF.mk ?a ?l ?c ?k;(case a=>k_is);(case l=>k_is);(case c=>k_is);(case k=>k_is)))
  (case d_sizes_together=>(refine' K1.DF.mk ?a ?l ?c ?k;(case a=>k_is);(case l=>k_is);(case c=>k_is);(case k=>k_is)))
  (case a_law_k61=>k_is)
  (case l_law_k61=>k_is)
  (case c_law_k61=>k_is)
  (case k_law_k61=>k_is)
  (case z_len=>k_is)
  (case z_isinstance=>k_is)
  (case z_all=>k_is)
  (case z_abs=>k_is)
  (case z_max=>k_is)
  (case z_min=>k_is)
  (case z_sum=>k_is)
  (case z_range=>k_is)
  (case z_str=>k_is)
  (case z_int=>k_is)
  (case z_bool=>k_is)
  (case z_tuple=>k_is)
  (case z_set=>k_is)
  (case z_sorted=>k_is)
  (case z_enumerate=>k_is)
  (case y_LETTERS=>k_is)
  (case y_MOST_ROWS=>k_is)
  (case y_MOST_COLUMNS=>k_is)
