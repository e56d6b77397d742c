import PyProof.Rows.All
import Wide.All
import OpenK.AllK
import Wide.FinOn
import Lean
import PyProof.EqAt
import PyProof.EqKinds
import PyProof.TupleCall
import KE.KTryMore
import KE.KRevIter
import KE.KSortTup
import KE.KDictSum
import KE.KRevSl
import PyProof.Rows.TupDisplay
import PyProof.EnumFor
import PyProof.EnumMake
import PyProof.EnumStmt
import PyProof.DictUpdate
import PyProof.AttrMissSeq
import KE.KDictOf
import PyProof.ListStr
import PyProof.SetScanFacts
import PyProof.Rows.SetFrom
import PyProof.TupleKey
import KE.LcSums
import PyProof.ListRange
import PyProof.SeqI3
import PySem.Challenge.RW_cellpatches_k42_whole_cuts
set_option Elab.async false
set_option linter.all false
set_option maxRecDepth 100000
namespace L2
open PySem
def dY(s:Stmt):Arguments:=match s with
 | .FunctionDef _ a _ _ _ _ _ _ _ _=>a
 |_=>{posonlyargs:=[],args:=[],vararg:=none,kwonlyargs:=[],kw_defaults:=[],kwarg:=none,defaults:=[]}
def bx(s:Stmt):List Stmt:=match s with
 | .FunctionDef _ _ b _ _ _ _ _ _ _=>b
 |_=>[]
def ag(s:Stmt):Scope:=match s with
 | .FunctionDef _ _ _ _ _ _ sc _ _ _=>sc
 |_=>{kind:= .function,names:=[],isGenerator:=false,isCoroutine:=false}
end L2
namespace K1
open PySem PySem.Spec
def top(i:Nat):Stmt:=PySem.Challenge.pw_cellpatches_k42_whole_cuts.main.body.getD i (.Pass ⟨0,0,0,0⟩)
abbrev hS(s:String)(t:Tok):Value:= .str (Str.ofString s) t
abbrev hE(P:Params)(s:String)(t:Tok)(v:Value):DictEntry:={hash:=PyData.keyHash P (Str.ofString s),key:=hS s t,val:=v}
abbrev hT(xs:Array Value):Obj:={cls:= .type "tuple",data:=Data.seq xs}
abbrev hF(s:String)(t:Stmt)(m:Value)(c:Addr):Obj:={cls:= .type "function",data:=Data.func {name:=Str.ofString s,qualname:=Str.ofString s,params:=L2.dY t,body:=FuncBody.stmts (L2.bx t),scope:=L2.ag t,globals:=3,closure:=[],defaults:= .none,kwdefaults:= .none,pyModule:=m,code:= .ref c} }
def nN:Params→W.Frag:=fun P=>(nat_lit 2,{cls:= .none,data:=Data.dict #[]})::
 (nat_lit 3,{cls:= .type "dict",data:=Data.dict #[hE P "__name__" 165 (hS "law_cellpatches_k42_whole_cuts" 555),hE P "__doc__" 166 .none,hE P "__package__" 167 .none,hE P "__loader__" 168 (.builtin "__main__.__loader__#opaque"),hE P "__spec__" 169 .none,hE P "__annotations__" 170 (.ref 6),hE P "__builtins__" 171 (.ref 4),hE P "__file__" 173 (hS "/claim/cut.py" 172),hE P "__cached__" 174 .none,hE P "PatchError" 206 (.ref 24),hE P "NoBoard" 222 (.ref 37),hE P "NoWays" 238 (.ref 49),hE P "NoCell" 254 (.ref 61),hE P "NoLetter" 270 (.ref 73),hE P "LETTERS" 274 (hS "abcdef" 273),hE P "MOST_ROWS" 276 (.int 8 275),hE P "MOST_COLUMNS" 278 (.int 8 277),hE P "is_whole" 285 (.ref 82),hE P "is_letter" 292 (.ref 89),hE P "is_row" 298 (.ref 94),hE P "is_board" 304 (.ref 99),hE P "is_cell" 312 (.ref 106),hE P "need_board" 319 (.ref 113),hE P "need_cell" 327 (.ref 120),hE P "need_letter" 334 (.ref 127),hE P "need_ways" 341 (.ref 134),hE P "cells_of_row" 347 (.ref 139),hE P "all_cells" 356 (.ref 146),hE P "letter_of" 364 (.ref 153),hE P "are_next" 375 (.ref 160),hE P "next_cells" 387 (.ref 167),hE P "keyed" 396 (.ref 174),hE P "with_letters" 402 (.ref 179),hE P "cells" 409 (.ref 186),hE P "letter_at" 417 (.ref 193),hE P "with_letter" 426 (.ref 200),hE P "beside" 435 (.ref 207),hE P "like_cells" 443 (.ref 212),hE P "steps_back" 457 (.ref 219),hE P "all_patches" 469 (.ref 226),hE P "near_among" 475 (.ref 231),hE P "distances" 488 (.ref 238),hE P "parts_of" 502 (.ref 245),hE P "patch_of" 511 (.ref 252),hE P "how_many" 519 (.ref 259),hE P "need_paint" 531 (.ref 266),hE P "holds_together" 537 (.ref 271),hE P "change" 548 (.ref 278),hE P "cuts" 554 (.ref 283),hE P "_law_cell" 564 (.ref 290),hE P "_law_drawn" 574 (.ref 297),hE P "_law_board" 580 (.ref 302),hE P "law" 586 (.ref 307)] 53})::
 (nat_lit 15,hT #[.type "ValueError"])::
 (nat_lit 22,hT #[])::
 (nat_lit 23,{cls:= .type "dict",data:=Data.dict #[hE P "__module__" 196 (hS "cellpatches.errors" 187),hE P "__firstlineno__" 200 (.int 2 199),hE P "__static_attributes__" 201 (.ref 22),hE P "__weakref__" 203 (.ref 25),hE P "__doc__" 204 .none] 3})::
 (nat_lit 24,{cls:= .type "type",data:=Data.cls {name:=Str.ofString "PatchError",bases:=[.type "ValueError"],mro:=[.ref 24, .type "ValueError", .type "Exception", .type "BaseException", .type "object"],ns:=23,qualname:=Str.ofString "PatchError",subclasses:=[.ref 37, .ref 49, .ref 61, .ref 73]},slots:= #[some (.ref 15),none,some (hS "PatchError" 189),some (hS "PatchError" 197),some (.builtin "ValueError.__new__"),some (.bool true)]})::
 (nat_lit 25,{cls:= .type "getset_descriptor",data:=Data.fields #[hS "__weakref__" 202, .ref 24, .builtin "ExceptionGroup.__weakref__", .none]})::
 (nat_lit 28,hT #[.ref 24])::
 (nat_lit 35,hT #[])::
 (nat_lit 36,{cls:= .type "dict",data:=Data.dict #[hE P "__module__" 214 (hS "cellpatches.errors" 187),hE P "__firstlineno__" 218 (.int 4 217),hE P "__static_attributes__" 219 (.ref 35),hE P "__doc__" 220 .none] 2})::
 (nat_lit 37,{cls:= .type "type",data:=Data.cls {name:=Str.ofString "NoBoard",bases:=[.ref 24],mro:=[.ref 37, .ref 24, .type "ValueError", .type "Exception", .type "BaseException", .type "object"],ns:=36,qualname:=Str.ofString "NoBoard"},slots:= #[some (.ref 28),none,some (hS "NoBoard" 207),some (hS "NoBoard" 215),some (.builtin "ValueError.__new__"),some (.bool true)]})::
 (nat_lit 40,hT #[.ref 24])::
 (nat_lit 47,hT #[])::
 (nat_lit 48,{cls:= .type "dict",data:=Data.dict #[hE P "__module__" 230 (hS "cellpatches.errors" 187),hE P "__firstlineno__" 234 (.int 6 233),hE P "__static_attributes__" 235 (.ref 47),hE P "__doc__" 236 .none] 2})::
 (nat_lit 49,{cls:= .type "type",data:=Data.cls {name:=Str.ofString "NoWays",bases:=[.ref 24],mro:=[.ref 49, .ref 24, .type "ValueError", .type "Exception", .type "BaseException", .type "object"],ns:=48,qualname:=Str.ofString "NoWays"},slots:= #[some (.ref 40),none,some (hS "NoWays" 223),some (hS "NoWays" 231),some (.builtin "ValueError.__new__"),some (.bool true)]})::
 (nat_lit 52,hT #[.ref 24])::
 (nat_lit 59,hT #[])::
 (nat_lit 60,{cls:= .type "dict",data:=Data.dict #[hE P "__module__" 246 (hS "cellpatches.errors" 187),hE P "__firstlineno__" 250 (.int 8 249),hE P "__static_attributes__" 251 (.ref 59),hE P "__doc__" 252 .none] 2})::
 (nat_lit 61,{cls:= .type "type",data:=Data.cls {name:=Str.ofString "NoCell",bases:=[.ref 24],mro:=[.ref 61, .ref 24, .type "ValueError", .type "Exception", .type "BaseException", .type "object"],ns:=60,qualname:=Str.ofString "NoCell"},slots:= #[some (.ref 52),none,some (hS "NoCell" 239),some (hS "NoCell" 247),some (.builtin "ValueError.__new__"),some (.bool true)]})::
 (nat_lit 64,hT #[.ref 24])::
 (nat_lit 71,hT #[])::
 (nat_lit 72,{cls:= .type "dict",data:=Data.dict #[hE P "__module__" 262 (hS "cellpatches.errors" 187),hE P "__firstlineno__" 266 (.int 10 265),hE P "__static_attributes__" 267 (.ref 71),hE P "__doc__" 268 .none] 2})::
 (nat_lit 73,{cls:= .type "type",data:=Data.cls {name:=Str.ofString "NoLetter",bases:=[.ref 24],mro:=[.ref 73, .ref 24, .type "ValueError", .type "Exception", .type "BaseException", .type "object"],ns:=72,qualname:=Str.ofString "NoLetter"},slots:= #[some (.ref 64),none,some (hS "NoLetter" 255),some (hS "NoLetter" 263),some (.builtin "ValueError.__new__"),some (.bool true)]})::
 (nat_lit 76,hT #[])::
 (nat_lit 78,hT #[hS "thing" 282])::
 (nat_lit 79,hT #[])::
 (nat_lit 81,{cls:= .type "code",data:=Data.fields #[hS "is_whole" 279,hS "is_whole" 280,hS "/claim/cut.py" 281, .int 16 0, .int 1 0, .int 0 0, .int 0 0, .int 3 0, .ref 76, .bool true, .int 181 0, .ref 77, .none, .ref 78, .ref 79, .ref 80, .int 283 0, .int 16 0,hS "/claim/cut.py" 284]})::
 (nat_lit 82,hF "is_whole" (top 10) (hS "cellpatches.boards" 271) 81)::
 (nat_lit 83,hT #[])::
 (nat_lit 85,hT #[hS "thing" 289])::
 (nat_lit 86,hT #[])::
 (nat_lit 88,{cls:= .type "code",data:=Data.fields #[hS "is_letter" 286,hS "is_letter" 287,hS "/claim/cut.py" 288, .int 18 0, .int 1 0, .int 0 0, .int 0 0, .int 3 0, .ref 83, .bool true, .int 181 0, .ref 84, .none, .ref 85, .ref 86, .ref 87, .int 290 0, .int 18 0,hS "/claim/cut.py" 291]})::
 (nat_lit 89,hF "is_letter" (top 11) (hS "cellpatches.boards" 271) 88)::
 (nat_lit 90,hT #[])::
 (nat_lit 93,{cls:= .type "code",data:=Data.fields #[hS "is_row" 293,hS "is_row" 294,hS "/claim/cut.py" 295, .int 20 0, .int 1 0, .int 0 0, .int 0 0, .int 3 0, .ref 90, .bool true, .int 181 0, .ref 91, .none, .none, .none, .ref 92, .int 296 0, .int 20 0,hS "/claim/cut.py" 297]})::
 (nat_lit 94,hF "is_row" (top 12) (hS "cellpatches.boards" 271) 93)::
 (nat_lit 95,hT #[])::
 (nat_lit 98,{cls:= .type "code",data:=Data.fields #[hS "is_board" 299,hS "is_board" 300,hS "/claim/cut.py" 301, .int 24 0, .int 1 0, .int 0 0, .int 0 0, .int 3 0, .ref 95, .bool true, .int 181 0, .ref 96, .none, .none, .none, .ref 97, .int 302 0, .int 24 0,hS "/claim/cut.py" 303]})::
 (nat_lit 99,hF "is_board" (top 13) (hS "cellpatches.boards" 271) 98)::
 (nat_lit 100,hT #[])::
 (nat_lit 102,hT #[hS "board" 308,hS "thing" 309])::
 (nat_lit 103,hT #[])::
 (nat_lit 105,{cls:= .type "code",data:=Data.fields #[hS "is_cell" 305,hS "is_cell" 306,hS "/claim/cut.py" 307, .int 30 0, .int 2 0, .int 0 0, .int 0 0, .int 3 0, .ref 100, .bool true, .int 181 0, .ref 101, .none, .ref 102, .ref 103, .ref 104, .int 310 0, .int 30 0,hS "/claim/cut.py" 311]})::
 (nat_lit 106,hF "is_cell" (top 14) (hS "cellpatches.boards" 271) 105)::
 (nat_lit 107,hT #[])::
 (nat_lit 109,hT #[hS "thing" 316])::
 (nat_lit 110,hT #[])::
 (nat_lit 112,{cls:= .type "code",data:=Data.fields #[hS "need_board" 313,hS "need_board" 314,hS "/claim/cut.py" 315, .int 36 0, .int 1 0, .int 0 0, .int 0 0, .int 3 0, .ref 107, .bool true, .int 181 0, .ref 108, .none, .ref 109, .ref 110, .ref 111, .int 317 0, .int 36 0,hS "/claim/cut.py" 318]})::
 (nat_lit 113,hF "need_board" (top 15) (hS "cellpatches.boards" 271) 112)::
 (nat_lit 114,hT #[])::
 (nat_lit 116,hT #[hS "board" 323,hS "thing" 324])::
 (nat_lit 117,hT #[])::
 (nat_lit 119,{cls:= .type "code",data:=Data.fields #[hS "need_cell" 320,hS "need_cell" 321,hS "/claim/cut.py" 322, .int 39 0, .int 2 0, .int 0 0, .int 0 0, .int 3 0, .ref 114, .bool true, .int 181 0, .ref 115, .none, .ref 116, .ref 117, .ref 118, .int 325 0, .int 39 0,hS "/claim/cut.py" 326]})::
 (nat_lit 120,hF "need_cell" (top 16) (hS "cellpatches.boards" 271) 119)::
 (nat_lit 121,hT #[])::
 (nat_lit 123,hT #[hS "thing" 331])::
 (nat_lit 124,hT #[])::
 (nat_lit 126,{cls:= .type "code",data:=Data.fields #[hS "need_letter" 328,hS "need_letter" 329,hS "/claim/cut.py" 330, .int 42 0, .int 1 0, .int 0 0, .int 0 0, .int 3 0, .ref 121, .bool true, .int 181 0, .ref 122, .none, .ref 123, .ref 124, .ref 125, .int 332 0, .int 42 0,hS "/claim/cut.py" 333]})::
 (nat_lit 127,hF "need_letter" (top 17) (hS "cellpatches.boards" 271) 126)::
 (nat_lit 128,hT #[])::
 (nat_lit 130,hT #[hS "thing" 338])::
 (nat_lit 131,hT #[])::
 (nat_lit 133,{cls:= .type "code",data:=Data.fields #[hS "need_ways" 335,hS "need_ways" 336,hS "/claim/cut.py" 337, .int 45 0, .int 1 0, .int 0 0, .int 0 0, .int 3 0, .ref 128, .bool true, .int 181 0, .ref 129, .none, .ref 130, .ref 131, .ref 132, .int 339 0, .int 45 0,hS "/claim/cut.py" 340]})::
 (nat_lit 134,hF "need_ways" (top 18) (hS "cellpatches.boards" 271) 133)::
 (nat_lit 135,hT #[])::
 (nat_lit 138,{cls:= .type "code",data:=Data.fields #[hS "cells_of_row" 342,hS "cells_of_row" 343,hS "/claim/cut.py" 344, .int 48 0, .int 2 0, .int 0 0, .int 0 0, .int 3 0, .ref 135, .bool true, .int 181 0, .ref 136, .none, .none, .none, .ref 137, .int 345 0, .int 48 0,hS "/claim/cut.py" 346]})::
 (nat_lit 139,hF "cells_of_row" (top 19) (hS "cellpatches.boards" 271) 138)::
 (nat_lit 140,hT #[])::
 (nat_lit 142,hT #[hS "board" 351,hS "found" 352,hS "row" 353])::
 (nat_lit 143,hT #[])::
 (nat_lit 145,{cls:= .type "code",data:=Data.fields #[hS "all_cells" 348,hS "all_cells" 349,hS "/claim/cut.py" 350, .int 50 0, .int 1 0, .int 0 0, .int 0 0, .int 3 0, .ref 140, .bool true, .int 181 0, .ref 141, .none, .ref 142, .ref 143, .ref 144, .int 354 0, .int 50 0,hS "/claim/cut.py" 355]})::
 (nat_lit 146,hF "all_cells" (top 20) (hS "cellpatches.boards" 271) 145)::
 (nat_lit 147,hT #[])::
 (nat_lit 149,hT #[hS "board" 360,hS "cell" 361])::
 (nat_lit 150,hT #[])::
 (nat_lit 152,{cls:= .type "code",data:=Data.fields #[hS "letter_of" 357,hS "letter_of" 358,hS "/claim/cut.py" 359, .int 55 0, .int 2 0, .int 0 0, .int 0 0, .int 3 0, .ref 147, .bool true, .int 181 0, .ref 148, .none, .ref 149, .ref 150, .ref 151, .int 362 0, .int 55 0,hS "/claim/cut.py" 363]})::
 (nat_lit 153,hF "letter_of" (top 21) (hS "cellpatches.boards" 271) 152)::
 (nat_lit 154,hT #[])::
 (nat_lit 156,hT #[hS "one" 368,hS "other" 369,hS "ways" 370,hS "down" 371,hS "along" 372])::
 (nat_lit 157,hT #[])::
 (nat_lit 159,{cls:= .type "code",data:=Data.fields #[hS "are_next" 365,hS "are_next" 366,hS "/claim/cut.py" 367, .int 57 0, .int 3 0, .int 0 0, .int 0 0, .int 3 0, .ref 154, .bool true, .int 181 0, .ref 155, .none, .ref 156, .ref 157, .ref 158, .int 373 0, .int 57 0,hS "/claim/cut.py" 374]})::
 (nat_lit 160,hF "are_next" (top 22) (hS "cellpatches.boards" 271) 159)::
 (nat_lit 161,hT #[])::
 (nat_lit 163,hT #[hS "board" 379,hS "cell" 380,hS "ways" 381,hS "found" 382,hS "row" 383,hS "column" 384])::
 (nat_lit 164,hT #[])::
 (nat_lit 166,{cls:= .type "code",data:=Data.fields #[hS "next_cells" 376,hS "next_cells" 377,hS "/claim/cut.py" 378, .int 63 0, .int 3 0, .int 0 0, .int 0 0, .int 3 0, .ref 161, .bool true, .int 181 0, .ref 162, .none, .ref 163, .ref 164, .ref 165, .int 385 0, .int 63 0,hS "/claim/cut.py" 386]})::
 (nat_lit 167,hF "next_cells" (top 23) (hS "cellpatches.boards" 271) 166)::
 (nat_lit 168,hT #[])::
 (nat_lit 170,hT #[hS "things" 391,hS "found" 392,hS "thing" 393])::
 (nat_lit 171,hT #[])::
 (nat_lit 173,{cls:= .type "code",data:=Data.fields #[hS "keyed" 388,hS "keyed" 389,hS "/claim/cut.py" 390, .int 70 0, .int 1 0, .int 0 0, .int 0 0, .int 3 0, .ref 168, .bool true, .int 181 0, .ref 169, .none, .ref 170, .ref 171, .ref 172, .int 394 0, .int 70 0,hS "/claim/cut.py" 395]})::
 (nat_lit 174,hF "keyed" (top 24) (hS "cellpatches.boards" 271) 173)::
 (nat_lit 175,hT #[])::
 (nat_lit 178,{cls:= .type "code",data:=Data.fields #[hS "with_letters" 397,hS "with_letters" 398,hS "/claim/cut.py" 399, .int 75 0, .int 3 0, .int 0 0, .int 0 0, .int 3 0, .ref 175, .bool true, .int 181 0, .ref 176, .none, .none, .none, .ref 177, .int 400 0, .int 75 0,hS "/claim/cut.py" 401]})::
 (nat_lit 179,hF "with_letters" (top 25) (hS "cellpatches.boards" 271) 178)::
 (nat_lit 180,hT #[])::
 (nat_lit 182,hT #[hS "board" 406])::
 (nat_lit 183,hT #[])::
 (nat_lit 185,{cls:= .type "code",data:=Data.fields #[hS "cells" 403,hS "cells" 404,hS "/claim/cut.py" 405, .int 82 0, .int 1 0, .int 0 0, .int 0 0, .int 3 0, .ref 180, .bool true, .int 181 0, .ref 181, .none, .ref 182, .ref 183, .ref 184, .int 407 0, .int 82 0,hS "/claim/cut.py" 408]})::
 (nat_lit 186,hF "cells" (top 26) (hS "cellpatches.boards" 271) 185)::
 (nat_lit 187,hT #[])::
 (nat_lit 189,hT #[hS "board" 413,hS "cell" 414])::
 (nat_lit 190,hT #[])::
 (nat_lit 192,{cls:= .type "code",data:=Data.fields #[hS "letter_at" 410,hS "letter_at" 411,hS "/claim/cut.py" 412, .int 85 0, .int 2 0, .int 0 0, .int 0 0, .int 3 0, .ref 187, .bool true, .int 181 0, .ref 188, .none, .ref 189, .ref 190, .ref 191, .int 415 0, .int 85 0,hS "/claim/cut.py" 416]})::
 (nat_lit 193,hF "letter_at" (top 27) (hS "cellpatches.boards" 271) 192)::
 (nat_lit 194,hT #[])::
 (nat_lit 196,hT #[hS "board" 421,hS "cell" 422,hS "letter" 423])::
 (nat_lit 197,hT #[])::
 (nat_lit 199,{cls:= .type "code",data:=Data.fields #[hS "with_letter" 418,hS "with_letter" 419,hS "/claim/cut.py" 420, .int 89 0, .int 3 0, .int 0 0, .int 0 0, .int 3 0, .ref 194, .bool true, .int 181 0, .ref 195, .none, .ref 196, .ref 197, .ref 198, .int 424 0, .int 89 0,hS "/claim/cut.py" 425]})::
 (nat_lit 200,hF "with_letter" (top 28) (hS "cellpatches.boards" 271) 199)::
 (nat_lit 201,hT #[])::
 (nat_lit 203,hT #[hS "board" 430,hS "cell" 431,hS "ways" 432])::
 (nat_lit 204,hT #[])::
 (nat_lit 206,{cls:= .type "code",data:=Data.fields #[hS "beside" 427,hS "beside" 428,hS "/claim/cut.py" 429, .int 94 0, .int 3 0, .int 0 0, .int 0 0, .int 3 0, .ref 201, .bool true, .int 181 0, .ref 202, .none, .ref 203, .ref 204, .ref 205, .int 433 0, .int 94 0,hS "/claim/cut.py" 434]})::
 (nat_lit 207,hF "beside" (top 29) (hS "cellpatches.boards" 271) 206)::
 (nat_lit 208,hT #[])::
 (nat_lit 211,{cls:= .type "code",data:=Data.fields #[hS "like_cells" 438,hS "like_cells" 439,hS "/claim/cut.py" 440, .int 100 0, .int 3 0, .int 0 0, .int 0 0, .int 3 0, .ref 208, .bool true, .int 181 0, .ref 209, .none, .none, .none, .ref 210, .int 441 0, .int 100 0,hS "/claim/cut.py" 442]})::
 (nat_lit 212,hF "like_cells" (top 31) (hS "cellpatches.patches" 436) 211)::
 (nat_lit 213,hT #[])::
 (nat_lit 215,hT #[hS "board" 447,hS "start" 448,hS "ways" 449,hS "back" 450,hS "ring" 451,hS "further" 452,hS "cell" 453,hS "near" 454])::
 (nat_lit 216,hT #[])::
 (nat_lit 218,{cls:= .type "code",data:=Data.fields #[hS "steps_back" 444,hS "steps_back" 445,hS "/claim/cut.py" 446, .int 103 0, .int 3 0, .int 0 0, .int 0 0, .int 3 0, .ref 213, .bool true, .int 181 0, .ref 214, .none, .ref 215, .ref 216, .ref 217, .int 455 0, .int 103 0,hS "/claim/cut.py" 456]})::
 (nat_lit 219,hF "steps_back" (top 32) (hS "cellpatches.patches" 436) 218)::
 (nat_lit 220,hT #[])::
 (nat_lit 222,hT #[hS "board" 461,hS "ways" 462,hS "found" 463,hS "seen" 464,hS "cell" 465,hS "patch" 466])::
 (nat_lit 223,hT #[])::
 (nat_lit 225,{cls:= .type "code",data:=Data.fields #[hS "all_patches" 458,hS "all_patches" 459,hS "/claim/cut.py" 460, .int 115 0, .int 2 0, .int 0 0, .int 0 0, .int 3 0, .ref 220, .bool true, .int 181 0, .ref 221, .none, .ref 222, .ref 223, .ref 224, .int 467 0, .int 115 0,hS "/claim/cut.py" 468]})::
 (nat_lit 226,hF "all_patches" (top 33) (hS "cellpatches.patches" 436) 225)::
 (nat_lit 227,hT #[])::
 (nat_lit 230,{cls:= .type "code",data:=Data.fields #[hS "near_among" 470,hS "near_among" 471,hS "/claim/cut.py" 472, .int 124 0, .int 3 0, .int 0 0, .int 0 0, .int 3 0, .ref 227, .bool true, .int 181 0, .ref 228, .none, .none, .none, .ref 229, .int 473 0, .int 124 0,hS "/claim/cut.py" 474]})::
 (nat_lit 231,hF "near_among" (top 34) (hS "cellpatches.patches" 436) 230)::
 (nat_lit 232,hT #[])::
 (nat_lit 234,hT #[hS "near" 479,hS "start" 480,hS "far" 481,hS "ring" 482,hS "further" 483,hS "thing" 484,hS "other" 485])::
 (nat_lit 235,hT #[])::
 (nat_lit 237,{cls:= .type "code",data:=Data.fields #[hS "distances" 476,hS "distances" 477,hS "/claim/cut.py" 478, .int 130 0, .int 2 0, .int 0 0, .int 0 0, .int 3 0, .ref 232, .bool true, .int 181 0, .ref 233, .none, .ref 234, .ref 235, .ref 236, .int 486 0, .int 130 0,hS "/claim/cut.py" 487]})::
 (nat_lit 238,hF "distances" (top 35) (hS "cellpatches.patches" 436) 237)::
 (nat_lit 239,hT #[])::
 (nat_lit 241,hT #[hS "board" 492,hS "some" 493,hS "ways" 494,hS "near" 495,hS "parts" 496,hS "seen" 497,hS "cell" 498,hS "part" 499])::
 (nat_lit 242,hT #[])::
 (nat_lit 244,{cls:= .type "code",data:=Data.fields #[hS "parts_of" 489,hS "parts_of" 490,hS "/claim/cut.py" 491, .int 142 0, .int 3 0, .int 0 0, .int 0 0, .int 3 0, .ref 239, .bool true, .int 181 0, .ref 240, .none, .ref 241, .ref 242, .ref 243, .int 500 0, .int 142 0,hS "/claim/cut.py" 501]})::
 (nat_lit 245,hF "parts_of" (top 36) (hS "cellpatches.patches" 436) 244)::
 (nat_lit 246,hT #[])::
 (nat_lit 248,hT #[hS "board" 506,hS "cell" 507,hS "ways" 508])::
 (nat_lit 249,hT #[])::
 (nat_lit 251,{cls:= .type "code",data:=Data.fields #[hS "patch_of" 503,hS "patch_of" 504,hS "/claim/cut.py" 505, .int 152 0, .int 3 0, .int 0 0, .int 0 0, .int 3 0, .ref 246, .bool true, .int 181 0, .ref 247, .none, .ref 248, .ref 249, .ref 250, .int 509 0, .int 152 0,hS "/claim/cut.py" 510]})::
 (nat_lit 252,hF "patch_of" (top 37) (hS "cellpatches.patches" 436) 251)::
 (nat_lit 253,hT #[])::
 (nat_lit 255,hT #[hS "board" 515,hS "ways" 516])::
 (nat_lit 256,hT #[])::
 (nat_lit 258,{cls:= .type "code",data:=Data.fields #[hS "how_many" 512,hS "how_many" 513,hS "/claim/cut.py" 514, .int 157 0, .int 2 0, .int 0 0, .int 0 0, .int 3 0, .ref 253, .bool true, .int 181 0, .ref 254, .none, .ref 255, .ref 256, .ref 257, .int 517 0, .int 157 0,hS "/claim/cut.py" 518]})::
 (nat_lit 259,hF "how_many" (top 38) (hS "cellpatches.patches" 436) 258)::
 (nat_lit 260,hT #[])::
 (nat_lit 262,hT #[hS "board" 525,hS "cell" 526,hS "ways" 527,hS "letter" 528])::
 (nat_lit 263,hT #[])::
 (nat_lit 265,{cls:= .type "code",data:=Data.fields #[hS "need_paint" 522,hS "need_paint" 523,hS "/claim/cut.py" 524, .int 162 0, .int 4 0, .int 0 0, .int 0 0, .int 3 0, .ref 260, .bool true, .int 181 0, .ref 261, .none, .ref 262, .ref 263, .ref 264, .int 529 0, .int 162 0,hS "/claim/cut.py" 530]})::
 (nat_lit 266,hF "need_paint" (top 40) (hS "cellpatches.painting" 520) 265)::
 (nat_lit 267,hT #[])::
 (nat_lit 270,{cls:= .type "code",data:=Data.fields #[hS "holds_together" 532,hS "holds_together" 533,hS "/claim/cut.py" 534, .int 167 0, .int 4 0, .int 0 0, .int 0 0, .int 3 0, .ref 267, .bool true, .int 181 0, .ref 268, .none, .none, .none, .ref 269, .int 535 0, .int 167 0,hS "/claim/cut.py" 536]})::
 (nat_lit 271,hF "holds_together" (top 41) (hS "cellpatches.painting" 520) 270)::
 (nat_lit 272,hT #[])::
 (nat_lit 274,hT #[hS "board" 541,hS "cell" 542,hS "ways" 543,hS "letter" 544,hS "then" 545])::
 (nat_lit 275,hT #[])::
 (nat_lit 277,{cls:= .type "code",data:=Data.fields #[hS "change" 538,hS "change" 539,hS "/claim/cut.py" 540, .int 170 0, .int 4 0, .int 0 0, .int 0 0, .int 3 0, .ref 272, .bool true, .int 181 0, .ref 273, .none, .ref 274, .ref 275, .ref 276, .int 546 0, .int 170 0,hS "/claim/cut.py" 547]})::
 (nat_lit 278,hF "change" (top 42) (hS "cellpatches.painting" 520) 277)::
 (nat_lit 279,hT #[])::
 (nat_lit 282,{cls:= .type "code",data:=Data.fields #[hS "cuts" 549,hS "cuts" 550,hS "/claim/cut.py" 551, .int 174 0, .int 2 0, .int 0 0, .int 0 0, .int 3 0, .ref 279, .bool true, .int 181 0, .ref 280, .none, .none, .none, .ref 281, .int 552 0, .int 174 0,hS "/claim/cut.py" 553]})::
 (nat_lit 283,hF "cuts" (top 43) (hS "cellpatches.painting" 520) 282)::
 (nat_lit 284,hT #[])::
 (nat_lit 286,hT #[hS "_law_script" 560,hS "_law_k" 561])::
 (nat_lit 287,hT #[])::
 (nat_lit 289,{cls:= .type "code",data:=Data.fields #[hS "_law_cell" 557,hS "_law_cell" 558,hS "/claim/cut.py" 559, .int 182 0, .int 2 0, .int 0 0, .int 0 0, .int 3 0, .ref 284, .bool true, .int 181 0, .ref 285, .none, .ref 286, .ref 287, .ref 288, .int 562 0, .int 182 0,hS "/claim/cut.py" 563]})::
 (nat_lit 290,hF "_law_cell" (top 45) (hS "law_cellpatches_k42_whole_cuts" 555) 289)::
 (nat_lit 291,hT #[])::
 (nat_lit 293,hT #[hS "_law_script" 568,hS "_law_k" 569,hS "_law_many" 570,hS "_law_cell_here" 571])::
 (nat_lit 294,hT #[])::
 (nat_lit 296,{cls:= .type "code",data:=Data.fields #[hS "_law_drawn" 565,hS "_law_drawn" 566,hS "/claim/cut.py" 567, .int 186 0, .int 3 0, .int 0 0, .int 0 0, .int 3 0, .ref 291, .bool true, .int 181 0, .ref 292, .none, .ref 293, .ref 294, .ref 295, .int 572 0, .int 186 0,hS "/claim/cut.py" 573]})::
 (nat_lit 297,hF "_law_drawn" (top 46) (hS "law_cellpatches_k42_whole_cuts" 555) 296)::
 (nat_lit 298,hT #[])::
 (nat_lit 301,{cls:= .type "code",data:=Data.fields #[hS "_law_board" 575,hS "_law_board" 576,hS "/claim/cut.py" 577, .int 190 0, .int 3 0, .int 0 0, .int 0 0, .int 3 0, .ref 298, .bool true, .int 181 0, .ref 299, .none, .none, .none, .ref 300, .int 578 0, .int 190 0,hS "/claim/cut.py" 579]})::
 (nat_lit 302,hF "_law_board" (top 47) (hS "law_cellpatches_k42_whole_cuts" 555) 301)::
 (nat_lit 303,hT #[])::
 (nat_lit 306,{cls:= .type "code",data:=Data.fields #[hS "law" 581,hS "law" 582,hS "/claim/cut.py" 583, .int 199 0, .int 1 0, .int 0 0, .int 0 0, .int 3 0, .ref 303, .bool true, .int 181 0, .ref 304, .none, .none, .none, .ref 305, .int 584 0, .int 199 0,hS "/claim/cut.py" 585]})::
 (nat_lit 307,hF "law" (top 48) (hS "law_cellpatches_k42_whole_cuts" 555) 306)::[]
def nM:List Nat:=[2,3,15,22,23,24,25,28,35,36,37,40,47,48,49,52,59,60,61,64,71,72,73,76,78,79,81,82,83,85,86,88,89,90,93,94,95,98,99,100,102,103,105,106,107,109,110,112,113,114,116,117,119,120,121,123,124,126,127,128,130,131,133,134,135,138,139,140,142,143,145,146,147,149,150,152,153,154,156,157,159,160,161,163,164,166,167,168,170,171,173,174,175,178,179,180,182,183,185,186,187,189,190,192,193,194,196,197,199,200,201,203,204,206,207,208,211,212,213,215,216,218,219,220,222,223,225,226,227,230,231,232,234,235,237,238,239,241,242,244,245,246,248,249,251,252,253,255,256,258,259,260,262,263,265,266,267,270,271,272,274,275,277,278,279,282,283,284,286,287,289,290,291,293,294,296,297,298,301,302,303,306,307]
def va:Program:={PySem.Challenge.pw_cellpatches_k42_whole_cuts with main:={PySem.Challenge.pw_cellpatches_k42_whole_cuts.main with body:=[top 1,top 2,top 3,top 4,top 5,top 7,top 8,top 9,top 10,top 11,top 12,top 13,top 14,top 15,top 16,top 17,top 18,top 19,top 20,top 21,top 22,top 23,top 24,top 25,top 26,top 27,top 28,top 29,top 31,top 32,top 33,top 34,top 35,top 36,top 37,top 38,top 40,top 41,top 42,top 43,top 45,top 46,top 47,top 48]} }
open PySem.W PyProof.Rows in
set_option maxHeartbeats 0 in
theorem HG:LeftO PySem.Challenge.rw_cellpatches_k42_whole_cuts.row.prog va [] (fun s=>xlAt va [] s&&recOk PySem.Challenge.rw_cellpatches_k42_whole_cuts.row.records s) (kHook nN nM (fun _=>by kernel_rfl)).obs (kHook nN nM (fun _=>by kernel_rfl)).val 4494:=fun w=>by kernel_rfl
end K1
namespace L2
open PySem PySem.Spec PyProof.Rows
abbrev Key:=Sum Int Str
def nW:Key→Value→Bool
 | .inl k,v=>Value.isInt k v
 | .inr x,v=>Value.isStrOf x v
def Ic(w:World):Key→Int
 | .inl k=>hashInt k
 | .inr x=>hashStr w x
theorem bF:∀{k:Key}{v:Value},nW k v=true→(∃i t,k=Sum.inl i∧v=Value.int i t)∨(∃x t,k=Sum.inr x∧v=Value.str x t)
 | .inl i,v,h=>by
   obtain⟨t,e⟩:=Value.isInt_shape (k:=i) (v:=v) h
   exact .inl ⟨i,t,rfl,e⟩
 | .inr x,v,h=>by
   obtain⟨t,e⟩:=Value.isStrOf_shape (x:=x) (v:=v) h
   exact .inr ⟨x,t,rfl,e⟩
theorem yQ(i:Int)(t:Tok):nW (.inl i) (.int i t)=true:=by simp[nW,Value.isInt]
theorem yR(x:Str)(t:Tok):nW (.inr x) (.str x t)=true:=by simp[nW,Value.isStrOf]
theorem FC(a b:Int):decide ((Sum.inl a:Key)=Sum.inl b)=(a==b):=by
 by_cases e:a=b
 ·subst e;simp
 ·have h:¬(Sum.inl a:Key)=Sum.inl b:=fun q=>e (Sum.inl.inj q)
  rw[decide_eq_false h]
  exact(beq_eq_false_iff_ne.mpr e).symm
theorem FF(a b:Str):decide ((Sum.inr a:Key)=Sum.inr b)=decide (a=b):=by
 by_cases e:a=b
 ·subst e;simp
 ·have h:¬(Sum.inr a:Key)=Sum.inr b:=fun q=>e (Sum.inr.inj q)
  rw[decide_eq_false h,decide_eq_false e]
theorem FD(a:Int)(b:Str):decide ((Sum.inl a:Key)=Sum.inr b)=false:=decide_eq_false (fun q=>nomatch q)
theorem FE(a:Str)(b:Int):decide ((Sum.inr a:Key)=Sum.inl b)=false:=decide_eq_false (fun q=>nomatch q)
def bf(prog:Program)(w:World):PySem.KeyKind prog w Key where
 is:=nW
 hash:=Ic w
 inj:=fun v a b ha hb=>by
  rcases bF ha with⟨i,t,rfl,rfl⟩ | ⟨x,t,rfl,rfl⟩
  ·rcases bF hb with⟨j,u,rfl,e⟩ | ⟨y,u,rfl,e⟩
   ·injection e with e1 _;rw[e1]
   ·exact nomatch e
  ·rcases bF hb with⟨j,u,rfl,e⟩ | ⟨y,u,rfl,e⟩
   ·exact nomatch e
   ·injection e with e1 _;rw[e1]
 byValue:=fun k v h=>by
  rcases bF h with⟨i,t,rfl,rfl⟩ | ⟨x,t,rfl,rfl⟩<;>rfl
 pyHash:=fun hv h=>by
  rcases bF hv with⟨i,t,rfl,rfl⟩ | ⟨x,t,rfl,rfl⟩
  ·exact wpAny_pyHash_int h
  ·exact wpAny_pyHash_str h
 eqBool:=fun hu hv h=>by
  rcases bF hu with⟨i,t,rfl,rfl⟩ | ⟨x,t,rfl,rfl⟩
  ·rcases bF hv with⟨j,u,rfl,rfl⟩ | ⟨y,u,rfl,rfl⟩
   ·rw[FC] at h;exact wpAny_eqBool_int h
   ·rw[FD] at h;exact SeqAt.EqAt.int_str i t y u _ _ _ _ h
  ·rcases bF hv with⟨j,u,rfl,rfl⟩ | ⟨y,u,rfl,rfl⟩
   ·rw[FE] at h;exact SeqAt.EqAt.str_int x t j u _ _ _ _ h
   ·rw[FF] at h;exact wpAny_eqBool_str h
 «strs» :=fun k x t v h=>by
  rcases bF h with⟨i,u,rfl,e⟩ | ⟨y,u,rfl,e⟩
  ·exact nomatch e
  ·injection e with e1 _
   subst e1
   cases v<;>rfl
theorem uc(prog:Program)(w:World)(i:Int)(t:Tok):(bf prog w).is (.inl i) (.int i t)=true:=yQ i t
theorem ud(prog:Program)(w:World)(x:Str)(t:Tok):(bf prog w).is (.inr x) (.str x t)=true:=yR x t
inductive V where
 |non | bl (b:Bool) | int (i:Int) | str (x:Str) | byt (b:Array UInt8) | flt (b:UInt64) | ref (a:Addr) | ty (n:String)
 deriving DecidableEq
def RelV:V→Value→Prop
 | .non,u=>u=Value.none
 | .bl b,u=>u=Value.bool b
 | .int i,u=>∃t,u=Value.int i t
 | .str x,u=>∃t,u=Value.str x t
 | .byt b,u=>∃t,u=Value.bytes b t
 | .flt b,u=>∃t,u=Value.float b t
 | .ref a,u=>u=Value.ref a
 | .ty n,u=>u=Value.type n
abbrev Vals:List V→List Value→Prop:=Paired RelV
theorem Vals.length{xs:List V}{us:List Value}(r:Vals xs us):xs.length=us.length:=Paired.length r
theorem Vals.get:∀{xs:List V}{us:List Value}{i:Nat}{x:V},Vals xs us→xs[i]? =some x→∃u,us[i]? =some u∧RelV x u
 |_,_,_,_, .nil,e=>by simp at e
 |_,_,0,_, .cons r _,e=>by simp at e;subst e;exact⟨_,rfl,r⟩
 |_,_,i+1,x, .cons _ t,e=>by
  obtain⟨u,h1,h2⟩:=Vals.get (i:=i) (x:=x) t (by simpa using e)
  exact⟨u,by simpa using h1,h2⟩
theorem Vals.append:∀{xs ys:List V}{us ws:List Value},Vals xs us→Vals ys ws→Vals (xs++ys) (us++ws)
 |_,_,_,_, .nil,s=>s
 |_,_,_,_, .cons r t,s=> .cons r (Vals.append t s)
theorem Vals.take:∀{xs:List V}{us:List Value}(n:Nat),Vals xs us→Vals (xs.take n) (us.take n)
 |_,_,0,_=> .nil
 |_,_,_+1, .nil=> .nil
 |_,_,n+1, .cons r t=> .cons r (Vals.take n t)
theorem Vals.drop:∀{xs:List V}{us:List Value}(n:Nat),Vals xs us→Vals (xs.drop n) (us.drop n)
 |_,_,0,r=>r
 |_,_,_+1, .nil=> .nil
 |_,_,n+1, .cons _ t=>Vals.drop n t
def RelO:Option V→Option Value→Prop
 |some v,some u=>RelV v u
 |none,none=>True
 |_,_=>False
def KV{κ:Type}:List (κ×V)→List (κ×Value)→Prop:=Paired fun(p:κ×V) (q:κ×Value)=>p.1=q.1∧RelV p.2 q.2
def kV:Key→V
 | .inl i=> .int i
 | .inr x=> .str x
inductive HO where
 |lst (xs:List V)
 |tup (xs:List V)
 |dK (au:List (Key×V)) | dT (au:List (List Key×V))
 |set (S:Int→Bool) (n:Nat)
 |ins (C dx:Addr) (fs:List (Str×V))
 |own (x:Addr)
 |xd (fs:List (Str×V))
 |met (f x:Addr)
 |rng (lo hi:Int)
 |frz (o:Obj) (u:HO)
 |tbl (ps:Array Value)
 |ext (φ:Heap→Prop)
abbrev Hp:=Addr→Option HO
def upd(H:Hp)(a:Addr)(o:HO):Hp:=fun b=>if b=a then some o else H b
theorem aD{H:Hp}{a:Addr}{o:HO}:upd H a o a=some o:=by unfold upd;rw[if_pos rfl]
theorem ax{H:Hp}{a b:Addr}{o:HO}(h:b≠a):upd H a o b=H b:=by unfold upd;rw[if_neg h]
theorem AN{H:Hp}{a b:Addr}{o u:HO}(h:H a=some o)(h':H b=some u)(d:o≠u):a≠b:=by
 intro e;subst e;rw[h] at h';exact d (Option.some.inj h')
theorem bY{H:Hp}{a b:Addr}{o:HO}(h:H a=some o)(h':H b=none):a≠b:=by
 intro e;subst e;rw[h] at h';cases h'
section
variable(P:Program)(w:World)
def ObjOk(H:Hp)(h:Heap)(a:Addr):HO→Prop
 | .lst xs=>xs.length≤sizeLine∧∃(aF:List Value) (n:Nat),Vals xs aF∧h.get? a=some {cls:= .type "list",data:= .seq aF.toArray n}
 | .tup xs=>xs.length≤sizeLine∧∃aF:List Value,Vals xs aF∧IsTup h a aF.toArray
 | .dK au=>au.length≤sizeLine∧(a==sysModules)=false∧∃vs,KV au vs∧h.DictOf (bf P w) a vs
 | .dT au=>au.length≤sizeLine∧(a==sysModules)=false∧∃xs:List (List Key×Addr×Value),
    Paired (fun (p:List Key×V) (q:List Key×Addr×Value)=>p.1=q.1∧H q.2.1=some (.tup (p.1.map kV))∧RelV p.2 q.2.2) au xs∧
    ∃o es ep,h.get? a=some o∧o.ExactDict∧o.data= .dict es ep∧es.toList=xs.map (entryOfKey (tupleKind (bf P w)))∧(xs.map (·.1)).Nodup
 | .set S n=>h.SetOf (intKind P w) a S n
 | .ins C dx fs=>H dx=some (.own a)∧fs.length≤1000∧dx≠a∧h.get? a=some (PySem.W.instObj C dx)∧
    ∃mA,h.Ns1 dx mA∧(∀f,RelO (fs.lookup f) (mA f))∧PySem.Within mA (fs.map (·.1))
 | .own _=>∃o,h.get? a=some o
 | .xd fs=>∃mA,h.Ns1 a mA∧∀f,RelO (fs.lookup f) (mA f)
 | .rng lo hi=>∃t u v,h.get? a=some {cls:= .type "range",data:= .fields #[.int lo t, .int hi u, .int 1 v]}
 | .frz o u=>h.get? a=some o∧ObjOk H h a u
 | .tbl ps=>h.get? a=some {cls:= .none,data:= .fields ps}
 | .met f x=>h.get? a=some (PySem.W.methodObj (.ref f) (.ref x))
 | .ext φ=>φ h∧(∃o,h.get? a=some o)∧∀h1 h2:Heap,φ h1→(∀o,h1.get? a=some o→h2.get? a=some o)→φ h2
def HOk(H:Hp)(h:Heap):Prop:=∀a o,H a=some o→ObjOk P w H h a o
end
section
variable{P:Program}{w:World}{H H':Hp}{h h':Heap}{a:Addr}{o:HO}
theorem ObjOk.lt(x:ObjOk P w H h a o):a<h.objs.size:=by
 cases o with
 |lst xs=>obtain⟨_,_,_,_,e⟩:=x;exact Heap.lt_size e
 |tup xs=>obtain⟨_,_,_,p⟩:=x;exact p.lt
 |dK au=>obtain⟨_,_,_,_,o,_,_,e,_⟩:=x;exact Heap.lt_size e
 |dT au=>obtain⟨_,_,_,_,o,_,_,e,_⟩:=x;exact Heap.lt_size e
 |set S n=>obtain⟨o,_,_,_,e,_⟩:=x;exact Heap.lt_size e
 |ins C dx fs=>obtain⟨_,_,_,e,_⟩:=x;exact Heap.lt_size e
 |own y=>obtain⟨_,e⟩:=x;exact Heap.lt_size e
 |xd fs=>obtain⟨_,⟨_,_,_,e,_⟩,_⟩:=x;exact Heap.lt_size e
 |rng lo hi=>obtain⟨_,_,_,e⟩:=x;exact Heap.lt_size e
 |frz ob u=>obtain⟨e,_⟩:=x;exact Heap.lt_size e
 |tbl ps=>exact Heap.lt_size (show h.get? a=some _ from x)
 |met f y=>exact Heap.lt_size (show h.get? a=some _ from x)
 |ext φ=>obtain⟨_,⟨_,e⟩,_⟩:=x;exact Heap.lt_size e
theorem Paired.mapP{α β:Type}{F G:α→β→Prop}:∀{l₁:List α}{l₂:List β},Paired F l₁ l₂→(∀a b,F a b→G a b)→Paired G l₁ l₂
 |_,_, .nil,_=> .nil
 |_,_, .cons r t,f=> .cons (f _ _ r) (Paired.mapP t f)
theorem ObjOk.stay(x:ObjOk P w H h a o)(k:∀b u,(b=a∨H b=some (.own a))→h.get? b=some u→h'.get? b=some u)
 (ho:∀b,H b=some (.own a)→H' b=some (.own a))(ht:∀b xs,H b=some (.tup xs)→H' b=some (.tup xs)):ObjOk P w H' h' a o:=by
 induction o with
 |lst xs=>obtain⟨z,aF,n,r,e⟩:=x;exact⟨z,aF,n,r,k _ _ (.inl rfl) e⟩
 |tup xs=>obtain⟨z,aF,r,ob,e,c⟩:=x;exact⟨z,aF,r,ob,k _ _ (.inl rfl) e,c⟩
 |dK au=>obtain⟨z,y,vs,r,ob,es,ep,e,c⟩:=x;exact⟨z,y,vs,r,ob,es,ep,k _ _ (.inl rfl) e,c⟩
 |dT au=>
  obtain⟨z,y,xs,r,ob,es,ep,e,c⟩:=x
  exact⟨z,y,xs,Paired.mapP r fun p q z=>⟨z.1,ht _ _ z.2.1,z.2.2⟩,ob,es,ep,k _ _ (.inl rfl) e,c⟩
 |set S n=>obtain⟨ob,es,ep,t,e,c⟩:=x;exact⟨ob,es,ep,t,k _ _ (.inl rfl) e,c⟩
 |ins C dx fs=>
  obtain⟨d,z,ne,e,mA,⟨od,es,ep,e2,c⟩,r⟩:=x
  exact⟨ho _ d,z,ne,k _ _ (.inl rfl) e,mA,⟨od,es,ep,k _ _ (.inr d) e2,c⟩,r⟩
 |own y=>obtain⟨ob,e⟩:=x;exact⟨ob,k _ _ (.inl rfl) e⟩
 |xd fs=>obtain⟨mA,⟨od,es,ep,e,c⟩,r⟩:=x;exact⟨mA,⟨od,es,ep,k _ _ (.inl rfl) e,c⟩,r⟩
 |rng lo hi=>obtain⟨t,u,v,e⟩:=x;exact⟨t,u,v,k _ _ (.inl rfl) e⟩
 |frz ob u ih=>obtain⟨e,q⟩:=x;exact⟨k _ _ (.inl rfl) e,ih q⟩
 |tbl ps=>
  have e:h.get? a=some {cls:= .none,data:= .fields ps}:=x
  show h'.get? a=some {cls:= .none,data:= .fields ps}
  exact k a _ (.inl rfl) e
 |met f y=>
  have e:h.get? a=some (PySem.W.methodObj (.ref f) (.ref y)):=x
  show h'.get? a=some (PySem.W.methodObj (.ref f) (.ref y))
  exact k a _ (.inl rfl) e
 |ext φ=>obtain⟨p,⟨o,e⟩,st⟩:=x;exact⟨st _ _ p fun o q=>k _ _ (.inl rfl) q,⟨o,k _ _ (.inl rfl) e⟩,st⟩
theorem HOk.lt(x:HOk P w H h)(e:H a=some o):a<h.objs.size:=(x a o e).lt
theorem HOk.fresh(x:HOk P w H h)(e:h.objs.size≤a):H a=none:=by
 cases q:H a with
 |none=>rfl
 |some u=>exact absurd (Nat.lt_of_lt_of_le (x.lt q) e) (Nat.lt_irrefl _)
theorem HOk.kept(x:HOk P w H h)(k:∀b u,h.get? b=some u→h'.get? b=some u):HOk P w H h':=fun a o e=>
 (x a o e).stay (fun b u _ q=>k b u q) (fun _ q=>q) fun _ _ q=>q
theorem HOk.laid(x:HOk P w H h)(k:∀b u,h.get? b=some u→h'.get? b=some u)(hp:h.objs.size≤a)(new:ObjOk P w (upd H a o) h' a o):HOk P w (upd H a o) h':=fun b u e=>by
 have hn:=x.fresh hp
 by_cases hb:b=a
 ·subst hb;rw[aD] at e;cases e;exact new
 ·rw[ax hb] at e
  exact(x b u e).stay (fun c v _ q=>k c v q) (fun c q=>by rw[ax (bY q hn)];exact q) fun c xs q=>by rw[ax (bY q hn)];exact q
end
def Rd(H:Hp)(a:Addr)(u:HO):Prop:=H a=some u∨∃o,H a=some (.frz o u)
theorem Rd.ok{P:Program}{w:World}{H:Hp}{h:Heap}{a:Addr}{u:HO}(r:Rd H a u)(x:HOk P w H h):ObjOk P w H h a u:=by
 rcases r with r | ⟨o,r⟩
 ·exact x a u r
 ·obtain⟨_,q⟩:=x a _ r
  exact q
def G6:Option HO→Prop
 |some (.lst _)=>True
 |some (.dK _)=>True
 |some (.dT _)=>True
 |some (.set _ _)=>True
 |some (.ins _ _ _)=>True
 |some (.ext _)=>True
 |_=>False
section
variable{P:Program}{w:World}{H:Hp}{h h':Heap}{x e:Addr}{o':HO}
theorem HOk.write(ok:HOk P w H h)(mu:G6 (H x))(he:e=x∨H e=some (.own x))(k:∀b u,b≠e→h.get? b=some u→h'.get? b=some u)(zB:∃u,h'.get? e=some u)
 (new:ObjOk P w (upd H x o') h' x o'):HOk P w (upd H x o') h':=fun b u q=>by
 have Ik:∀c y,H c=some (.own y)→c≠x:=fun c y r z=>by subst z;rw[r] at mu;exact mu
 have KO:∀c xs,H c=some (.tup xs)→c≠x:=fun c xs r z=>by subst z;rw[r] at mu;exact mu
 by_cases hb:b=x
 ·subst hb;rw[aD] at q;cases q;exact new
 ·rw[ax hb] at q
  by_cases E4:b=e
  ·have q':H b=some (.own x):=by
    rcases he with z | z
    ·exact absurd (E4.trans z) hb
    ·rw[E4];exact z
   rw[q] at q';cases q'
   obtain⟨v,hv⟩:=zB
   exact⟨v,by rw[E4];exact hv⟩
  ·refine(ok b u q).stay (fun c v hc r=>k c v ?_ r) (fun c r=>by rw[ax (Ik c b r)];exact r) fun c xs r=>by rw[ax (KO c xs r)];exact r
   rcases hc with rfl | hc
   ·exact E4
   ·rintro rfl
    rcases he with z | z
    ·exact Ik c b hc z
    ·rw[hc] at z;cases z;exact hb rfl
end
structure Un (fs ex:List Addr) (H H':Hp) (h h':Heap):Prop where
 keep:∀b o,h.get? b=some o→H b=none→b∉fs→b∉ex→h'.get? b=some o
 slot:∀b o,h.get? b=some o→H b=none→b∈fs→b∉ex→∃sl,h'.get? b=some {o with slots:=sl}
 free:∀b o,h.get? b=some o→H b=none→b∉ex→H' b=none
 there:∀b o,h.get? b=some o→b∉ex→∃o',h'.get? b=some o'
 tups:∀b xs,H b=some (.tup xs)→H' b=some (.tup xs)
 frzs:∀b o u,H b=some (.frz o u)→H' b=some (.frz o u)
 tbls:∀b ps,H b=some (.tbl ps)→∃more,H' b=some (.tbl (ps++more))
section
variable{fs JQ ex vN:List Addr}{H H1 H2:Hp}{h h1 h2 h':Heap}{a x e:Addr}{o:HO}
theorem Un.any(u:Un fs ex H H1 h h1){b:Addr}{ob:Obj}(q:h.get? b=some ob)(n:H b=none)(hx:b∉ex):∃sl,h1.get? b=some {ob with slots:=sl}:=by
 by_cases hb:b∈fs
 ·exact u.slot b ob q n hb hx
 ·exact⟨ob.slots,u.keep b ob q n hb hx⟩
theorem Un.trans(a:Un fs ex H H1 h h1)(b:Un fs ex H1 H2 h1 h2):Un fs ex H H2 h h2 where
 keep:=fun c ob q n hc hx=>b.keep c ob (a.keep c ob q n hc hx) (a.free c ob q n hx) hc hx
 slot:=fun c ob q n hc hx=>by
  obtain⟨sl,e1⟩:=a.slot c ob q n hc hx
  obtain⟨GH,e2⟩:=b.slot c _ e1 (a.free c ob q n hx) hc hx
  exact⟨GH,e2⟩
 free:=fun c ob q n hx=>by
  obtain⟨o',e1⟩:=a.there c ob q hx
  exact b.free c o' e1 (a.free c ob q n hx) hx
 there:=fun c ob q hx=>by
  obtain⟨o',e1⟩:=a.there c ob q hx
  exact b.there c o' e1 hx
 tups:=fun c xs q=>b.tups c xs (a.tups c xs q)
 frzs:=fun c ob xs q=>b.frzs c ob xs (a.frzs c ob xs q)
 tbls:=fun c ps q=>by
  obtain⟨m1,e1⟩:=a.tbls c ps q
  obtain⟨m2,e2⟩:=b.tbls c _ e1
  exact⟨m1++m2,by rw[e2,Array.append_assoc]⟩
theorem Un.kept(k:∀b u,h.get? b=some u→h'.get? b=some u):Un fs ex H H h h':=
 ⟨fun b ob q _ _ _=>k b ob q,fun b ob q _ _ _=>⟨ob.slots,k b ob q⟩,fun _ _ _ n _=>n,fun b ob q _=>⟨ob,k b ob q⟩,fun _ _ q=>q,fun _ _ _ q=>q,fun _ ps q=>⟨#[],by rw[q];simp⟩⟩
theorem Un.refl:Un fs ex H H h h:=Un.kept fun _ _ q=>q
theorem Un.laid(k:∀b u,h.get? b=some u→h'.get? b=some u)(hp:h.objs.size≤a)(hn:H a=none):Un fs ex H (upd H a o) h h' where
 keep:=fun b u q _ _ _=>k b u q
 slot:=fun b u q _ _ _=>⟨u.slots,k b u q⟩
 free:=fun b u q n _=>by rw[ax (Nat.ne_of_lt (Nat.lt_of_lt_of_le (Heap.lt_size q) hp))];exact n
 there:=fun b u q _=>⟨u,k b u q⟩
 tups:=fun b xs q=>by rw[ax (bY q hn)];exact q
 frzs:=fun b u xs q=>by rw[ax (bY q hn)];exact q
 tbls:=fun b ps q=>⟨#[],by rw[ax (bY q hn),q];simp⟩
theorem Un.write(mu:G6 (H x))(he:e=x∨H e=some (.own x))(k:∀b u,b≠e→h.get? b=some u→h'.get? b=some u)(zB:∃u,h'.get? e=some u):Un fs ex H (upd H x o) h h':=by
 have hx:∀b,H b=none→b≠x:=fun b n z=>by subst z;rw[n] at mu;exact mu
 have hb:∀b,H b=none→b≠e:=fun b n z=>by
  subst z
  rcases he with r | r
  ·exact hx b n r
  ·rw[n] at r;cases r
 have hm:∀b u,H b=some u→¬G6 (some u)→b≠x:=fun b u q nm z=>by subst z;rw[q] at mu;exact nm mu
 refine⟨fun b u q n _ _=>k b u (hb b n) q,fun b u q n _ _=>⟨u.slots,k b u (hb b n) q⟩,fun b u q n _=>by rw[ax (hx b n)];exact n,fun b u q _=>?_,
  fun b xs q=>by rw[ax (hm b _ q fun z=>z)];exact q,fun b u xs q=>by rw[ax (hm b _ q fun z=>z)];exact q,fun b ps q=>⟨#[],by rw[ax (hm b _ q fun z=>z),q];simp⟩⟩
 by_cases E4:b=e
 ·subst E4;exact zB
 ·exact⟨u,k b u E4 q⟩
theorem Un.mono(u:Un fs ex H H1 h h1)(hs:∀b∈fs,b∈JQ)(hx:∀b∈ex,b∈vN):Un JQ vN H H1 h h1:=
 ⟨fun b ob q n hb he=>u.keep b ob q n (fun z=>hb (hs b z)) fun z=>he (hx b z),fun _ _ q n _ he=>u.any q n fun z=>he (hx _ z),fun b ob q n he=>u.free b ob q n fun z=>he (hx b z),fun b ob q he=>u.there b ob q fun z=>he (hx b z),u.tups,u.frzs,u.tbls⟩
end
def JB(h:Heap)(H:Hp):List Addr:=(List.range h.objs.size).filter fun a=>(H a).isSome
def rA(h:Heap)(H:Hp):Heap:=PySem.W.hideAll h (JB h H)
theorem yF(h:Heap)(H:Hp):(rA h H).objs.size=h.objs.size:=PySem.W.hideAll_size _ _
theorem An{h:Heap}{H:Hp}{b:Addr}{o:Obj}(e:h.get? b=some o)(n:H b=none):(rA h H).get? b=some o:=
 PySem.W.hideAll_get _ e fun hm=>by
  have q:(H b).isSome=true:=(List.mem_filter.mp hm).2
  rw[n] at q;simp at q
theorem Dc{h:Heap}{H:Hp}{b:Addr}{o:Obj}(e:(rA h H).get? b=some o):h.get? b=some o∧H b=none:=by
 have e':h.get? b=some o:=PySem.W.of_hideAll (JB h H) e
 refine⟨e',?_⟩
 cases q:H b with
 |none=>rfl
 |some x=>
  have hm:b∈JB h H:=List.mem_filter.mpr ⟨List.mem_range.mpr (Heap.lt_size e'),by simp[q]⟩
  have z:(rA h H).get? b=none:=PySem.W.hideAll_none (JB h H) hm
  rw[z] at e;cases e
def Cq(g h:Heap)(L:Addr):List (Addr×Obj):=(List.range h.objs.size).filterMap fun a=>if a=L∨(g.get? a).isSome=true then none else(h.get? a).map fun o=>(a,o)
def rest(g h:Heap)(L d:Addr):List (Addr×Obj):=(Cq g h L).filter fun p=>decide (p.1≠d)
structure Mod (K:W.Frag) (mg:Str→Option Value) (base:Heap):Prop where
 kin:K.In base
 glob:base.Ns mainGlobals mg
 blt:∃mb,base.Ns builtinsNs mb∧∀x:Str,x≠"__name__"→mb x=bootBuiltins x
 nolimit:base.NoLimit
structure Cx where
 prog:Program
 w:World
 K:W.Frag
 mg:Str→Option Value
 base:Heap
 A:Around
 N:List Str
 s₀:Shared
 H₀:Hp
 env:Env
 outer:List Env
 stack:List Env
 ex:List Addr
 fn:Str→Bool
 calm:Bool
 pn:List (Addr×Obj)
 xe:Value→Shared→Prop
def mG(l:List Env):List Addr:=l.filterMap (·.frame)
abbrev Cx.fs(X:Cx):List Addr:=mG X.outer
def JM(sc:Scope)(x:Str):Prop:=sc.names.lookup x=some .local∨sc.names.lookup x=some .cell∨sc.names.lookup x=some .free
def Loc(sc:Scope)(x:Str):Prop:=sc.names.lookup x=some .local∨sc.names.lookup x=some .cell
def Look(env:Env)(h:Heap)(m:Str→Option Value)(x:Str)(u:Value):Prop:=
 (env.kindOf x=some .local∧m x=some u)∨((env.kindOf x=some .cell∨env.kindOf x=some .free)∧∃c,env.cells.lookup x=some c∧h.IsCell c (some u))
structure Cx.Ok (X:Cx):Prop where
 mod:Mod X.K X.mg X.base
 kind:X.env.scope.kind= .function
 glob:X.env.globals=mainGlobals
 blt:X.env.builtins=builtinsNs
 above:X.s₀.heap.objs.size≤X.env.locals
 inj:∀x y c,X.env.cells.lookup x=some c→X.env.cells.lookup y=some c→x=y
 has:∀x,(X.env.kindOf x=some .cell∨X.env.kindOf x=some .free)→∃c,X.env.cells.lookup x=some c
 cab:∀x c,X.fn x=true→X.env.cells.lookup x=some c→X.s₀.heap.objs.size≤c
 hd:X.calm=true→X.A.handled=none
 frames:X.A.frames=some X.stack
 stk:X.stack=X.outer∨(X.stack=X.env::X.outer∧X.env.frame=some X.env.locals)
 exf:∀b∈X.ex,b≠X.env.locals∧∀x c,X.env.cells.lookup x=some c→c≠b
 bs:∀b o,X.base.get? b=some o→X.s₀.heap.get? b=some o∧X.H₀ b=none
 bsz:X.base.objs.size≤X.s₀.heap.objs.size
 noex:∀b o,X.base.get? b=some o→b∉X.ex
 exfs:∀b∈X.ex,b∉X.fs
 funs:X.s₀.heap.FunFrames X.base X.outer
 frf:∀b∈X.fs,X.H₀ b=none
structure Inv (X:Cx) (pins:List (Addr×Obj)) (σ:List (Option V)) (H:Hp) (s:Shared):Prop where
 ok:X.Ok
 os:s.os=X.s₀.os
 bare:AllBare s.gens
 base:Un X.fs X.ex X.H₀ H X.s₀.heap s.heap
 loc:∃m,s.heap.Ns X.env.locals m∧∀(i:Nat) (x:Str) (v:V),X.N[i]? =some x→σ[i]? =some (some v)→JM X.env.scope x→∃u,RelV v u∧Look X.env s.heap m x u
 cell:∀x c,X.env.cells.lookup x=some c→∃v,s.heap.IsCell c v
 free:H X.env.locals=none
 freeC:∀x c,X.env.cells.lookup x=some c→H c=none
 pin:∀p∈X.pn++pins,s.heap.get? p.1=some p.2∧H p.1=none∧p.1≠X.env.locals∧p.1∉X.fs∧∀v,p.2.data≠ .cell v
 hok:HOk X.prog X.w H s.heap
 len:σ.length=X.N.length
section
variable{X:Cx}{pins:List (Addr×Obj)}{σ:List (Option V)}{H H':Hp}{s:Shared}{h':Heap}
theorem Cx.Ok.nofr(ok:X.Ok){b:Addr}{o:Obj}(e:X.base.get? b=some o):b∉X.fs:=fun hb=>by
 have:=(ok.funs.mem hb).1
 rw[e] at this;cases this
theorem Inv.bs(I:Inv X pins σ H s):∀b o,X.base.get? b=some o→s.heap.get? b=some o∧H b=none:=fun b o e=>
 ⟨I.base.keep b o (I.ok.bs b o e).1 (I.ok.bs b o e).2 (I.ok.nofr e) (I.ok.noex b o e),I.base.free b o (I.ok.bs b o e).1 (I.ok.bs b o e).2 (I.ok.noex b o e)⟩
theorem Inv.bk(I:Inv X pins σ H s):∀b o,X.base.get? b=some o→s.heap.get? b=some o:=fun b o e=>(I.bs b o e).1
theorem Inv.mod(I:Inv X pins σ H s):Mod X.K X.mg X.base:=I.ok.mod
theorem Inv.kIn(I:Inv X pins σ H s):X.K.In s.heap:=I.ok.mod.kin.keeps I.bk
theorem Inv.nolimit(I:Inv X pins σ H s):s.heap.NoLimit:=I.ok.mod.nolimit.keeps I.bk
theorem Inv.lt(I:Inv X pins σ H s):X.env.locals<s.heap.objs.size:=let ⟨_,hn,_⟩:=I.loc;hn.lt
theorem Inv.sz(I:Inv X pins σ H s):X.s₀.heap.objs.size≤s.heap.objs.size:=Nat.le_trans I.ok.above (Nat.le_of_lt I.lt)
theorem Inv.nofs(I:Inv X pins σ H s){a:Addr}(h:s.heap.objs.size≤a):a∉X.fs:=fun hb=>by
 obtain⟨_,o,ho,_⟩:=I.ok.funs.mem hb
 exact absurd (Nat.lt_of_lt_of_le (Heap.lt_size ho) (Nat.le_trans I.sz h)) (Nat.lt_irrefl _)
theorem Inv.cne(I:Inv X pins σ H s):∀x c,X.env.cells.lookup x=some c→c≠X.env.locals:=fun x c e z=>by
 obtain⟨v,o,ho,hd⟩:=I.cell x c e
 obtain⟨m,⟨o',es,ep,qd,qc,_⟩,_⟩:=I.loc
 rw[z,qd] at ho;cases ho;rw[qc] at hd;cases hd
theorem Inv.funs(I:Inv X pins σ H s):s.heap.FunFrames X.base X.outer:=by
 have all:∀(l:List Env),(∀b∈mG l,b∈X.fs)→X.s₀.heap.FunFrames X.base l→s.heap.FunFrames X.base l:=by
  intro l
  induction l with
  |nil=>intro _ _;trivial
  |cons env r ih=>
   intro hs hl
   obtain⟨hk,⟨L,o,hf,hn,ho,hd⟩,hr⟩:=hl
   have hL:L∈X.fs:=hs L (by unfold mG;rw[List.filterMap_cons,hf];exact List.mem_cons_self)
   obtain⟨sl,e⟩:=I.base.slot L o ho (I.ok.frf L hL) hL fun z=>I.ok.exfs L z hL
   exact⟨hk,⟨L,_,hf,hn,e,hd⟩,ih (fun b hb=>hs b (by unfold mG;rw[List.filterMap_cons,hf];exact List.mem_cons_of_mem _ hb)) hr⟩
 exact all X.outer (fun _ hb=>hb) I.ok.funs
theorem Inv.stack(I:Inv X pins σ H s):s.heap.FunFrames X.base X.stack:=by
 rcases I.ok.stk with e | ⟨e,hf⟩
 ·rw[e];exact I.funs
 ·rw[e]
  obtain⟨m,hn,_⟩:=I.loc
  refine .cons (by rw[I.ok.kind];decide) hf hn ?_ I.funs
  exact Heap.get?_none_of_le (Nat.le_trans I.ok.bsz I.ok.above)
theorem Inv.stkSub(I:Inv X pins σ H s):∀b∈mG X.stack,b∈X.env.locals::X.fs:=fun b hb=>by
 rcases I.ok.stk with e | ⟨e,hf⟩
 ·rw[e] at hb;exact List.mem_cons_of_mem _ hb
 ·rw[e] at hb
  unfold mG at hb
  rw[List.filterMap_cons,hf] at hb
  exact hb
theorem Inv.stkFree(I:Inv X pins σ H s):∀b∈mG X.stack,H b=none:=fun b hb=>by
 rcases List.mem_cons.mp (I.stkSub b hb) with e | hb
 ·rw[e];exact I.free
 ·obtain⟨_,o,ho,_⟩:=I.ok.funs.mem hb
  exact I.base.free b o ho (I.ok.frf b hb) fun z=>I.ok.exfs b z hb
theorem Inv.step{g':Array GenState}{t':Nat}{d':Drawn}{ch:List Addr}(I:Inv X pins σ H s)
 (Cc:∀b∈ch,(b∈X.ex∨X.s₀.heap.objs.size≤b)∧b≠X.env.locals∧(∀x c,X.env.cells.lookup x=some c→c≠b)∧∀p∈X.pn++pins,p.1≠b)
 (keep:∀b o,b≠X.env.locals→b∉X.fs→b∉ch→s.heap.get? b=some o→H b=none→h'.get? b=some o)
 (slot:∀b o,b≠X.env.locals→b∈X.fs→b∉ch→s.heap.get? b=some o→H b=none→∃sl,h'.get? b=some {o with slots:=sl})(free:∀b o,b∉ch→s.heap.get? b=some o→H b=none→H' b=none)
 (there:∀b o,b∉ch→s.heap.get? b=some o→∃o',h'.get? b=some o')
 (tups:∀b xs,H b=some (.tup xs)→H' b=some (.tup xs))(frzs:∀b o u,H b=some (.frz o u)→H' b=some (.frz o u))(tbls:∀b ps,H b=some (.tbl ps)→∃more,H' b=some (.tbl (ps++more)))
 (ns:∀m,s.heap.Ns X.env.locals m→h'.Ns X.env.locals m)(hok:HOk X.prog X.w H' h')(hg:AllBare g'):
 Inv X pins σ H' {s with heap:=h',gens:=g',drawn:=d',toks:=t'}:=by
 have Md:∀b o,X.s₀.heap.get? b=some o→b≠X.env.locals:=fun b o e=>Nat.ne_of_lt (Nat.lt_of_lt_of_le (Heap.lt_size e) I.ok.above)
 have Jw:∀b o,X.s₀.heap.get? b=some o→b∉X.ex→b∉ch:=fun b o e hx hb=>by
  rcases(Cc b hb).1 with z | z
  ·exact hx z
  ·exact absurd (Nat.lt_of_lt_of_le (Heap.lt_size e) z) (Nat.lt_irrefl _)
 have cellK:∀x c,X.env.cells.lookup x=some c→∀v,s.heap.IsCell c v→h'.IsCell c v:=fun x c e v ⟨o,ho,hd⟩=>by
  have Ig:c∉ch:=fun z=>(Cc c z).2.2.1 x c e rfl
  by_cases hc:c∈X.fs
  ·obtain⟨sl,q⟩:=slot c o (I.cne x c e) hc Ig ho (I.freeC x c e)
   exact⟨_,q,hd⟩
  ·exact⟨o,keep c o (I.cne x c e) hc Ig ho (I.freeC x c e),hd⟩
 refine⟨I.ok,I.os,hg,⟨fun b o e n hb hx=>?_,fun b o e n hb hx=>?_,fun b o e n hx=>?_,fun b o e hx=>?_,fun b xs e=>tups b xs (I.base.tups b xs e),fun b o xs e=>frzs b o xs (I.base.frzs b o xs e),fun b ps e=>?_⟩,?_,fun x c e=>?_,?_,fun x c e=>?_,fun p hp=>?_,hok,I.len⟩
 ·exact keep b o (Md b o e) hb (Jw b o e hx) (I.base.keep b o e n hb hx) (I.base.free b o e n hx)
 ·obtain⟨sl,e1⟩:=I.base.slot b o e n hb hx
  obtain⟨GH,e2⟩:=slot b _ (Md b o e) hb (Jw b o e hx) e1 (I.base.free b o e n hx)
  exact⟨GH,e2⟩
 ·obtain⟨o',e1⟩:=I.base.there b o e hx
  exact free b o' (Jw b o e hx) e1 (I.base.free b o e n hx)
 ·obtain⟨o',e1⟩:=I.base.there b o e hx
  exact there b o' (Jw b o e hx) e1
 ·obtain⟨m1,e1⟩:=I.base.tbls b ps e
  obtain⟨m2,e2⟩:=tbls b _ e1
  exact⟨m1++m2,by rw[e2,Array.append_assoc]⟩
 ·obtain⟨m,hn,hl⟩:=I.loc
  refine⟨m,ns m hn,fun i x v e1 e2 e3=>?_⟩
  obtain⟨u,r,l⟩:=hl i x v e1 e2 e3
  refine⟨u,r,?_⟩
  rcases l with l | ⟨k,c,e,z⟩
  ·exact .inl l
  ·exact .inr ⟨k,c,e,cellK x c e _ z⟩
 ·obtain⟨v,z⟩:=I.cell x c e
  exact⟨v,cellK x c e v z⟩
 ·obtain⟨m,⟨o,_,_,ho,_⟩,_⟩:=I.loc
  exact free _ o (fun z=>(Cc _ z).2.1 rfl) ho I.free
 ·obtain⟨v,o,ho,hd⟩:=I.cell x c e
  exact free c o (fun z=>(Cc c z).2.2.1 x c e rfl) ho (I.freeC x c e)
 ·obtain⟨e,n,ne,nf,d⟩:=I.pin p hp
  have Ig:p.1∉ch:=fun z=>(Cc p.1 z).2.2.2 p hp rfl
  exact⟨keep p.1 p.2 ne nf Ig e n,free p.1 p.2 Ig e n,ne,nf,d⟩
theorem Inv.un{t':Nat}(I:Inv X pins σ H s)(u:Un X.fs [] H H' s.heap h')(hok:HOk X.prog X.w H' h'):Inv X pins σ H' {s with heap:=h',toks:=t'}:=by
 obtain⟨m,⟨o,es,ep,ho,r⟩,_⟩:=id I.loc
 obtain⟨sl,hL⟩:=u.any ho I.free (by simp)
 exact I.step (g':=s.gens) (d':=s.drawn) (ch:=[]) (fun _ z=>nomatch z) (fun b o _ hb _ e n=>u.keep b o e n hb (by simp)) (fun b o _ hb _ e n=>u.slot b o e n hb (by simp)) (fun b o _ e n=>u.free b o e n (by simp)) (fun b o _ e=>u.there b o e (by simp)) u.tups u.frzs u.tbls (fun m' hm=>by
  obtain⟨o',GU,CI,qd,r'⟩:=hm
  rw[ho] at qd;cases qd
  exact⟨_,GU,CI,hL,r'⟩) hok I.bare
theorem Inv.call{g':Array GenState}{t':Nat}{d':Drawn}{ch:List Addr}(I:Inv X pins σ H s)(u:Un (mG X.stack) ch H H' s.heap h')(hok:HOk X.prog X.w H' h')(hg:AllBare g')
 (Cc:∀b∈ch,(b∈X.ex∨X.s₀.heap.objs.size≤b)∧b≠X.env.locals∧(∀x c,X.env.cells.lookup x=some c→c≠b)∧∀p∈X.pn++pins,p.1≠b):
 Inv X pins σ H' {s with heap:=h',gens:=g',drawn:=d',toks:=t'}:=by
 obtain⟨m,⟨o,es,ep,ho,r⟩,_⟩:=id I.loc
 obtain⟨sl,hL⟩:=u.any ho I.free fun z=>(Cc _ z).2.1 rfl
 exact I.step (ch:=ch) Cc (fun b o hL hb hc e n=>u.keep b o e n (fun z=>(List.mem_cons.mp (I.stkSub b z)).elim hL hb) hc) (fun b o _ _ hc e n=>u.any e n hc) (fun b o hc e n=>u.free b o e n hc) (fun b o hc e=>u.there b o e hc) u.tups u.frzs u.tbls (fun m' hm=>by
  obtain⟨o',GU,CI,qd,r'⟩:=hm
  rw[ho] at qd;cases qd
  exact⟨_,GU,CI,hL,r'⟩) hok hg
theorem Inv.turned{t':Nat}{it:Addr}(I:Inv X pins σ H s)(k:∀b o,b≠it→s.heap.get? b=some o→h'.get? b=some o)(hn:H it=none)(hL:it≠X.env.locals)
 (h1:it∈X.ex∨X.s₀.heap.objs.size≤it)(h2:∀x c,X.env.cells.lookup x=some c→c≠it)(h3:∀p∈X.pn++pins,p.1≠it):Inv X pins σ H {s with heap:=h',toks:=t'}:=by
 have Me:∀b u,H b=some u→b≠it:=fun b u e z=>by rw[z,hn] at e;cases e
 refine I.step (g':=s.gens) (d':=s.drawn) (ch:=[it]) (fun b hb=>?_) (fun b o _ _ hc e _=>k b o (fun z=>hc (by simp[z])) e) (fun b o _ _ hc e _=>⟨o.slots,k b o (fun z=>hc (by simp[z])) e⟩) (fun _ _ _ _ n=>n)
  (fun b o hc e=>⟨o,k b o (fun z=>hc (by simp[z])) e⟩) (fun _ _ e=>e) (fun _ _ _ e=>e) (fun b ps e=>⟨#[],by rw[e];simp⟩) (fun m hm=>?_) (fun b u e=>?_) I.bare
 ·have e:b=it:=by simpa using hb
  subst e
  exact⟨h1,hL,h2,h3⟩
 ·obtain⟨o,es,ep,ho,r⟩:=hm
  exact⟨o,es,ep,k _ o (Ne.symm hL) ho,r⟩
 ·refine(I.hok b u e).stay (fun c v hc q=>k c v ?_ q) (fun _ q=>q) fun _ _ q=>q
  rcases hc with z | z
  ·rw[z];exact Me b u e
  ·exact Me c _ z
theorem Inv.tok(I:Inv X pins σ H s)(t:Nat):Inv X pins σ H {s with toks:=t}:=I.un (h':=s.heap) (t':=t) Un.refl I.hok
theorem Inv.kept{t':Nat}(I:Inv X pins σ H s)(k:∀b u,s.heap.get? b=some u→h'.get? b=some u):Inv X pins σ H {s with heap:=h',toks:=t'}:=I.un (Un.kept k) (I.hok.kept k)
theorem Inv.laid{a:Addr}{o:HO}{t':Nat}(I:Inv X pins σ H s)(k:∀b u,s.heap.get? b=some u→h'.get? b=some u)(hp:s.heap.objs.size≤a)(new:ObjOk X.prog X.w (upd H a o) h' a o):
 Inv X pins σ (upd H a o) {s with heap:=h',toks:=t'}:=I.un (Un.laid k hp (I.hok.fresh hp)) (I.hok.laid k hp new)
theorem Inv.write{x e:Addr}{o:HO}{t':Nat}(I:Inv X pins σ H s)(mu:G6 (H x))(he:e=x∨H e=some (.own x))(k:∀b u,b≠e→s.heap.get? b=some u→h'.get? b=some u)(zB:∃u,h'.get? e=some u)
 (new:ObjOk X.prog X.w (upd H x o) h' x o):Inv X pins σ (upd H x o) {s with heap:=h',toks:=t'}:=I.un (Un.write mu he k zB) (I.hok.write mu he k zB new)
theorem Inv.pins_of{EA:List (Addr×Obj)}(I:Inv X pins σ H s)(h:∀p∈EA,s.heap.get? p.1=some p.2∧H p.1=none∧p.1≠X.env.locals∧p.1∉X.fs∧∀v,p.2.data≠ .cell v):Inv X EA σ H s:=
 ⟨I.ok,I.os,I.bare,I.base,I.loc,I.cell,I.free,I.freeC,fun p hp=>(List.mem_append.mp hp).elim (fun z=>I.pin p (List.mem_append_left _ z)) (h p),I.hok,I.len⟩
theorem uj{N:List Str}(hN:N.Nodup){i j:Nat}{x:Str}(a:N[i]? =some x)(b:N[j]? =some x):i=j:=by
 obtain⟨h1,e1⟩:=List.getElem?_eq_some_iff.mp a
 obtain⟨h2,e2⟩:=List.getElem?_eq_some_iff.mp b
 exact(List.getElem_inj hN).mp (e1.trans e2.symm)
theorem qN{M:Model}{A:Around}{E:Value→Shared→Prop}{i:Nat}{x:Str}{v:V}{u:Value}{Q:Unit→Shared→Prop}(I:Inv X pins σ H s)(hN:X.N.Nodup)(hi:X.N[i]? =some x)(hx:Loc X.env.scope x)(r:RelV v u)
 (h:∀s',Inv X pins (σ.set i (some v)) H s'→(∃a,Heap.SameBut a s.heap s'.heap∧(a=X.env.locals∨X.env.cells.lookup x=some a))→Q () s')(hf:X.fn x=true∨X.env.scope.names.lookup x=some .local:=by first | exact .inl rfl | exact .inr rfl | assumption):wpAny M A (storeName X.env x u) Q E s:=by
 obtain⟨m,hn,hl⟩:=id I.loc
 have JZ:(X.env.scope.kind== .class||(X.env.scope.kind== .module&&X.env.locals !=X.env.globals))=false:=by rw[I.ok.kind];rfl
 have LO:i<σ.length:=by rw[I.len];exact(List.getElem?_eq_some_iff.mp hi).1
 have cne:=I.cne
 have tracked:∀{a:Addr}{h':Heap},(∃o,s.heap.get? a=some o∧H a=none)→Heap.SameBut a s.heap h'→HOk X.prog X.w H h':=fun {a h'} ha hs b ob e=>by
  obtain⟨_,_,Ep⟩:=ha
  refine(I.hok b ob e).stay (fun c w' hc q=>(hs.2 c ?_).trans q) (fun _ q=>q) fun _ _ q=>q
  rintro rfl
  rcases hc with rfl | hc
  ·rw[Ep] at e;cases e
  ·rw[Ep] at hc;cases hc
 rcases hx with hk | hk
 ·refine wpAny_storeName_local hk hn (fun h' CN hs=>?_) JZ
  obtain⟨oL,_,_,Ce,_⟩:=id hn
  refine h _ ⟨I.ok,I.os,I.bare,⟨fun b o e n hb hx=>?_,fun b o e n hb hx=>?_,I.base.free,fun b o e hx=>?_,I.base.tups,I.base.frzs,I.base.tbls⟩,⟨_,CN,fun j y v' e1 e2 e3=>?_⟩,fun y c e=>?_,I.free,I.freeC,fun p hp=>?_,tracked ⟨oL,Ce,I.free⟩ hs,by simpa using I.len⟩ ⟨_,hs, .inl rfl⟩
  ·exact(hs.2 b (Nat.ne_of_lt (Nat.lt_of_lt_of_le (Heap.lt_size e) I.ok.above))).trans (I.base.keep b o e n hb hx)
  ·obtain⟨sl,e1⟩:=I.base.slot b o e n hb hx
   exact⟨sl,(hs.2 b (Nat.ne_of_lt (Nat.lt_of_lt_of_le (Heap.lt_size e) I.ok.above))).trans e1⟩
  ·obtain⟨o',e1⟩:=I.base.there b o e hx
   exact⟨o',(hs.2 b (Nat.ne_of_lt (Nat.lt_of_lt_of_le (Heap.lt_size e) I.ok.above))).trans e1⟩
  ·by_cases hj:j=i
   ·subst hj
    rw[hi] at e1;cases e1
    rw[List.getElem?_set_self LO] at e2
    cases e2
    exact⟨u,r, .inl ⟨hk,by simp⟩⟩
   ·rw[List.getElem?_set_ne (Ne.symm hj)] at e2
    obtain⟨u',r',q⟩:=hl j y v' e1 e2 e3
    refine⟨u',r',?_⟩
    rcases q with⟨k,e⟩ | ⟨k,c,e,z⟩
    ·refine .inl ⟨k,?_⟩
     have:y≠x:=fun e=>hj (uj hN e1 (e▸hi))
     simp[this,e]
    ·exact .inr ⟨k,c,e,z.sameBut hs (cne y c e)⟩
  ·obtain⟨w',z⟩:=I.cell y c e
   exact⟨w',z.sameBut hs (cne y c e)⟩
  ·obtain⟨e,n,ne,nf,d⟩:=I.pin p hp
   exact⟨(hs.2 p.1 ne).trans e,n,ne,nf,d⟩
 ·have J5:X.fn x=true:=by
   rcases hf with z | z
   ·exact z
   ·rw[z] at hk;cases hk
  obtain⟨c,hc⟩:=I.ok.has x (.inl hk)
  obtain⟨w',z⟩:=I.cell x c hc
  refine wpAny_storeName_cell I.ok.kind hk hc z (fun h' Cb hs=>?_)
  obtain⟨oc,Jo,Ki⟩:=id z
  refine h {s with heap:=h'} ⟨I.ok,I.os,I.bare,⟨fun b o e n hb hx=>?_,fun b o e n hb hx=>?_,I.base.free,fun b o e hx=>?_,I.base.tups,I.base.frzs,I.base.tbls⟩,⟨m,hn.sameBut hs (Ne.symm (cne x c hc)),fun j y v' e1 e2 e3=>?_⟩,fun y c' e=>?_,I.free,I.freeC,fun p hp=>?_,tracked ⟨oc,Jo,I.freeC x c hc⟩ hs,by simpa using I.len⟩ ⟨c,hs, .inr hc⟩
  ·exact(hs.2 b (Nat.ne_of_lt (Nat.lt_of_lt_of_le (Heap.lt_size e) (I.ok.cab x c J5 hc)))).trans (I.base.keep b o e n hb hx)
  ·obtain⟨sl,e1⟩:=I.base.slot b o e n hb hx
   exact⟨sl,(hs.2 b (Nat.ne_of_lt (Nat.lt_of_lt_of_le (Heap.lt_size e) (I.ok.cab x c J5 hc)))).trans e1⟩
  ·obtain⟨o',e1⟩:=I.base.there b o e hx
   exact⟨o',(hs.2 b (Nat.ne_of_lt (Nat.lt_of_lt_of_le (Heap.lt_size e) (I.ok.cab x c J5 hc)))).trans e1⟩
  ·by_cases hj:j=i
   ·subst hj
    rw[hi] at e1;cases e1
    rw[List.getElem?_set_self LO] at e2
    cases e2
    exact⟨u,r, .inr ⟨.inl hk,c,hc,Cb⟩⟩
   ·rw[List.getElem?_set_ne (Ne.symm hj)] at e2
    obtain⟨u',r',q⟩:=hl j y v' e1 e2 e3
    refine⟨u',r',?_⟩
    rcases q with q | ⟨k,c',e,z'⟩
    ·exact .inl q
    ·refine .inr ⟨k,c',e,z'.sameBut hs ?_⟩
     rintro rfl
     exact hj (uj hN e1 (I.ok.inj _ _ _ e hc▸hi))
  ·by_cases Jk:c'=c
   ·subst Jk;exact⟨_,Cb⟩
   ·obtain⟨w2,z2⟩:=I.cell y c' e
    exact⟨w2,z2.sameBut hs Jk⟩
  ·obtain⟨e,n,ne,nf,d⟩:=I.pin p hp
   refine⟨(hs.2 p.1 ?_).trans e,n,ne,nf,d⟩
   intro q
   rw[q,Jo] at e
   have q':oc=p.2:=Option.some.inj e
   exact d w' (by rw[←q'];exact Ki)
theorem u4{M:Model}{A:Around}{E:Value→Shared→Prop}{i:Nat}{x:Str}{v:V}{u:Value}{Q:Unit→Shared→Prop}(I:Inv X pins σ H s)(hN:X.N.Nodup)(hi:X.N[i]? =some x)(hx:Loc X.env.scope x)(r:RelV v u)
 (h:∀s',Inv X pins (σ.set i (some v)) H s'→Q () s')(hf:X.fn x=true∨X.env.scope.names.lookup x=some .local:=by first | exact .inl rfl | exact .inr rfl | assumption):wpAny M A (storeName X.env x u) Q E s:=
 qN I hN hi hx r (fun s' I' _=>h s' I') hf
theorem Inv.call'{s':Shared}{ch:List Addr}(I:Inv X pins σ H s)(ho:s'.os=s.os)(u:Un (mG X.stack) ch H H' s.heap s'.heap)(hok:HOk X.prog X.w H' s'.heap)(hg:AllBare s'.gens)
 (Cc:∀b∈ch,(b∈X.ex∨X.s₀.heap.objs.size≤b)∧b≠X.env.locals∧(∀x c,X.env.cells.lookup x=some c→c≠b)∧∀p∈X.pn++pins,p.1≠b):Inv X pins σ H' s':=by
 obtain⟨h',g',d',t',o'⟩:=s'
 have e:o'=s.os:=ho
 subst e
 exact I.call (g':=g') (t':=t') (d':=d') u hok hg Cc
end
abbrev XK:=Value→Option Addr→Hp→Prop
abbrev St:=List (Option V)
abbrev VK:=V→Hp→Prop
abbrev TE:=St→Hp→VK→Prop
abbrev TT:=St→Hp→(Bool→Hp→Prop)→Prop
abbrev TA:=St→Hp→(List V→Hp→Prop)→Prop
structure Ends where
 nx:St→Hp→Prop
 rt:VK
 bk:St→Hp→Prop:=fun _ _=>False
 ct:St→Hp→Prop:=fun _ _=>False
abbrev TS:=Ends→St→Hp→Prop
def EP(X:Cx)(pins:List (Addr×Obj))(σ:St)(Q:VK)(u:Value)(s':Shared):Prop:=∃v H',Inv X pins σ H' s'∧RelV v u∧Q v H'
def TP(X:Cx)(pins:List (Addr×Obj))(σ:St)(Q:Bool→Hp→Prop)(b:Bool)(s':Shared):Prop:=∃H',Inv X pins σ H' s'∧Q b H'
def AP(X:Cx)(pins:List (Addr×Obj))(σ:St)(Q:List V→Hp→Prop)(us:List Value)(s':Shared):Prop:=∃vs H',Inv X pins σ H' s'∧Vals vs us∧Q vs H'
def SP(X:Cx)(pins:List (Addr×Obj))(D:Ends)(f:Flow)(s':Shared):Prop:=
 match f with
 | .next=>∃σ' H',Inv X pins σ' H' s'∧D.nx σ' H'
 | .brk=>∃σ' H',Inv X pins σ' H' s'∧D.bk σ' H'
 | .cont=>∃σ' H',Inv X pins σ' H' s'∧D.ct σ' H'
 | .ret u=>∃v σ' H',Inv X pins σ' H' s'∧RelV v u∧D.rt v H'
def PE(X:Cx)(e:Expr)(t:TE):Prop:=
 ∀(pins:List (Addr×Obj)) (s:Shared) (σ:St) (H:Hp) (Q:VK),Inv X pins σ H s→t σ H Q→wpAny (model X.prog X.w) X.A (eval e X.env) (EP X pins σ Q) X.xe s
def PT(X:Cx)(e:Expr)(t:TT):Prop:=
 ∀(pins:List (Addr×Obj)) (s:Shared) (σ:St) (H:Hp) (Q:Bool→Hp→Prop),Inv X pins σ H s→t σ H Q→wpAny (model X.prog X.w) X.A (isTrue e X.env (eval e X.env)) (TP X pins σ Q) X.xe s
def PW(X:Cx)(e:Expr)(t:TT):Prop:=
 ∀(whole:Sem Value) (pins:List (Addr×Obj)) (s:Shared) (σ:St) (H:Hp) (Q:Bool→Hp→Prop),Inv X pins σ H s→t σ H Q→wpAny (model X.prog X.w) X.A (isTrue e X.env whole) (TP X pins σ Q) X.xe s
theorem PW.pt{X:Cx}{e:Expr}{t:TT}(h:PW X e t):PT X e t:=h _
def PA(X:Cx)(es:List Expr)(t:TA):Prop:=
 ∀(pos:Pos) (pins:List (Addr×Obj)) (s:Shared) (σ:St) (H:Hp) (Q:List V→Hp→Prop),Inv X pins σ H s→t σ H Q→wpAny (model X.prog X.w) X.A (spliced (backTo pos (starEach es X.env))) (AP X pins σ Q) X.xe s
def PS(X:Cx)(st:Stmt)(t:TS):Prop:=
 ∀(pins:List (Addr×Obj)) (s:Shared) (σ:St) (H:Hp) (D:Ends),Inv X pins σ H s→t D σ H→wpAny (model X.prog X.w) X.A (exec st X.env) (SP X pins D) X.xe s
def PSs(X:Cx)(st:List Stmt)(t:TS):Prop:=
 ∀(pins:List (Addr×Obj)) (s:Shared) (σ:St) (H:Hp) (D:Ends),Inv X pins σ H s→t D σ H→wpAny (model X.prog X.w) X.A (execs st X.env) (SP X pins D) X.xe s
theorem cg{α:Type}{t:Sem α}{Q Q':α→Shared→Prop}{M:Model}{A:Around}{E:Value→Shared→Prop}{s:Shared}(h:wpAny M A t Q E s)(hQ:∀a s,Q a s→Q' a s):wpAny M A t Q' E s:=wpAny_mono h hQ fun _ _ x=>x
section
variable{X:Cx}
theorem bin{a b:Expr}{ta tb:TE}(ha:PE X a ta)(hb:PE X b tb){pins:List (Addr×Obj)}{s:Shared}{σ:St}{H:Hp}{R:V→V→Hp→Prop}(I:Inv X pins σ H s)(h:ta σ H fun x H1=>tb σ H1 fun y H2=>R x y H2)
 {α:Type}{Q:α→Shared→Prop}{f:Value→Value→Sem α}
 (hf:∀v u s2 x y H2,Inv X pins σ H2 s2→RelV x v→RelV y u→R x y H2→wpAny (model X.prog X.w) X.A (f v u) Q X.xe s2):
 wpAny (model X.prog X.w) X.A (eval a X.env) (fun v s₁=>wpAny (model X.prog X.w) X.A (eval b X.env) (fun u s₂=>wpAny (model X.prog X.w) X.A (f v u) Q X.xe s₂) X.xe s₁) X.xe s:=by
 refine cg (ha pins s σ H _ I h) fun v s1 ⟨x,H1,I1,r1,q1⟩=>?_
 refine cg (hb pins s1 σ H1 _ I1 q1) fun u s2 ⟨y,H2,I2,r2,q2⟩=>?_
 exact hf v u s2 x y H2 I2 r1 r2 q2
def o6(i:Nat):TE:=fun σ H Q=>∃v,σ[i]? =some (some v)∧Q v H
def tC(v:V):TE:=fun _ H Q=>Q v H
theorem Gj{i:Nat}{x:Str}{pos:Pos}(hN:X.N[i]? =some x)(hv:JM X.env.scope x)(hd:(x==("__debug__":Str))=false:=by decide)(vp:(x==("__classdict__":Str))=false:=by decide):PE X (.Name x pos) (o6 i):=by
 intro pins s σ H Q I h
 obtain⟨v,e,h⟩:=h
 obtain⟨m,hn,hl⟩:=I.loc
 obtain⟨u,r,l⟩:=hl i x v hN e hv
 have fin:EP X pins σ Q u s:=⟨v,H,I,r,h⟩
 rcases l with⟨hk,hm⟩ | ⟨hk,c,hc,En⟩
 ·exact wpAny_Name (wpAny_loadName_local I.ok.kind hk hn hm fin) hd
 ·rcases hk with hk | hk
  ·exact wpAny_Name (wpAny_loadName_cell I.ok.kind hk hc En fin) hd
  ·exact wpAny_Name (wpAny_loadName_free I.ok.kind hk hc En fin vp) hd
theorem Gb{i j pos}:PE X (.Constant (.int i) j pos) (tC (.int i)):=fun _ _ _ H _ I h=>wpAny_Constant_int ⟨.int i,H,I.tok _,⟨_,rfl⟩,h⟩
theorem Iz{b j pos}:PE X (.Constant (.bool b) j pos) (tC (.bl b)):=fun _ _ _ H _ I h=>Constant_bool ⟨.bl b,H,I,rfl,h⟩
theorem Gd{j pos}:PE X (.Constant .none j pos) (tC .non):=fun _ _ _ H _ I h=>Constant_none ⟨.non,H,I,rfl,h⟩
theorem Gg{x j pos}:PE X (.Constant (.str x) j pos) (tC (.str x)):=fun _ _ _ H _ I h=>Calls.Constant_str ⟨.str x,H,I.tok _,⟨_,rfl⟩,h⟩
def Gl(X:Cx)(x:Str):Prop:=X.env.kindOf x=some .globalImplicit
theorem xx{E:Value→Shared→Prop}{pins:List (Addr×Obj)}{s:Shared}{σ:St}{H:Hp}{x:Str}{u:Value}{pos:Pos}{Q:Value→Shared→Prop}(I:Inv X pins σ H s)(hg:Gl X x)(hm:X.mg x=some u)(h:Q u s)
 (hd:(x==("__debug__":Str))=false:=by decide):wpAny (model X.prog X.w) X.A (eval (.Name x pos) X.env) Q E s:=
 Calls.Name_function_global I.ok.kind hg (Calls.loadGlobal_global (by rw[I.ok.glob];exact I.mod.glob.keeps I.bk) hm h) hd
theorem jG{E:Value→Shared→Prop}{pins:List (Addr×Obj)}{s:Shared}{σ:St}{H:Hp}{x:Str}{u:Value}{pos:Pos}{Q:Value→Shared→Prop}(I:Inv X pins σ H s)(hg:Gl X x)(hm:X.mg x=none)(hv:bootBuiltins x=some u)(h:Q u s)
 (hn:x≠"__name__":=by decide)(hd:(x==("__debug__":Str))=false:=by decide):wpAny (model X.prog X.w) X.A (eval (.Name x pos) X.env) Q E s:=by
 obtain⟨mb,h1,h2⟩:=I.mod.blt
 exact Calls.Name_function_global I.ok.kind hg (Calls.loadGlobal_builtin (by rw[I.ok.glob];exact I.mod.glob.keeps I.bk) hm (by rw[I.ok.blt];exact h1.keeps I.bk) ((h2 x hn).trans hv) h) hd
theorem Dx{x:Str}{v:V}{u:Value}{pos:Pos}(hg:Gl X x)(hm:X.mg x=some u)(r:RelV v u)(hd:(x==("__debug__":Str))=false:=by decide):PE X (.Name x pos) (tC v):=
 fun _ _ _ H _ I h=>xx I hg hm ⟨v,H,I,r,h⟩ hd
theorem Dt{x:Str}{v:V}{u:Value}{pos:Pos}(hg:Gl X x)(hm:X.mg x=none)(hv:bootBuiltins x=some u)(r:RelV v u)(hn:x≠"__name__":=by decide)(hd:(x==("__debug__":Str))=false:=by decide):PE X (.Name x pos) (tC v):=
 fun _ _ _ H _ I h=>jG I hg hm hv ⟨v,H,I,r,h⟩ hn hd
variable{a b:Expr}{ta tb:TE}{pos:Pos}
def PC(X:Cx)(op:CmpOp)(a b:Expr)(t:TE):Prop:=
 ∀(pins:List (Addr×Obj)) (s:Shared) (σ:St) (H:Hp) (Q:VK),Inv X pins σ H s→t σ H Q→
  wpAny (model X.prog X.w) X.A (eval a X.env) (fun v s₁=>wpAny (model X.prog X.w) X.A (eval b X.env) (fun u s₂=>wpAny (model X.prog X.w) X.A (compareOp op v u) (EP X pins σ Q) X.xe s₂) X.xe s₁) X.xe s
theorem AS(b:Expr){op:CmpOp}(h:op≠ .In)(h2:op≠ .NotIn):behindInMarks op b=false:=by
 have e1:(op==CmpOp.In)=false:=by cases op<;>first | rfl | exact absurd rfl h
 have e2:(op==CmpOp.NotIn)=false:=by cases op<;>first | rfl | exact absurd rfl h2
 cases b<;>simp[behindInMarks,e1,e2]
theorem Ga{op:CmpOp}{t:TE}(h:PC X op a b t)(h1:behindInMarks op b=false:=by first | exact AS _ (by decide) (by decide) | rfl):PE X (.Compare a [op] [b] pos) t:=fun pins s σ H Q I hw=>wpAny_Compare1 (h pins s σ H Q I hw) h1
variable{tA cf:TT}{rest:List Expr}
def K2(t u:TT):TT:=fun σ H Q=>t σ H fun c H1=>if c=true then u σ H1 Q else Q false H1
def Oc(t u:TT):TT:=fun σ H Q=>t σ H fun c H1=>if c=true then Q true H1 else u σ H1 Q
def La(t:TT):TT:=fun σ H Q=>t σ H fun c H1=>Q (!c) H1
theorem DL(ha:PT X a tA):PW X (.BoolOp .And [a] pos) tA:=by
 intro wh pins s σ H Q I h
 refine isTrue_and (cg (ha pins s σ H Q I h) fun c s1 e=>?_)
 cases c with
 |true=>exact isTrue_and_nil e
 |false=>exact e
theorem Gu(ha:PT X a tA):PW X (.BoolOp .Or [a] pos) tA:=by
 intro wh pins s σ H Q I h
 refine isTrue_or (cg (ha pins s σ H Q I h) fun c s1 e=>?_)
 cases c with
 |false=>exact isTrue_or_nil e
 |true=>exact e
theorem Gs(ha:PT X a tA)(hb:PW X (.BoolOp .And (b::rest) pos) cf):PW X (.BoolOp .And (a::b::rest) pos) (K2 tA cf):=by
 intro wh pins s σ H Q I h
 refine isTrue_and (cg (ha pins s σ H _ I h) fun c s1 ⟨H1,I1,q1⟩=>?_)
 cases c with
 |true=>exact hb wh pins s1 σ H1 Q I1 q1
 |false=>exact⟨H1,I1,q1⟩
theorem IG(ha:PT X a tA)(hb:PW X (.BoolOp .Or (b::rest) pos) cf):PW X (.BoolOp .Or (a::b::rest) pos) (Oc tA cf):=by
 intro wh pins s σ H Q I h
 refine isTrue_or (cg (ha pins s σ H _ I h) fun c s1 ⟨H1,I1,q1⟩=>?_)
 cases c with
 |true=>exact⟨H1,I1,q1⟩
 |false=>exact hb wh pins s1 σ H1 Q I1 q1
theorem Gq(ha:PT X a tA):PT X (.UnaryOp .Not a pos) (La tA):=by
 intro pins s σ H Q I h
 exact isTrue_not (ha pins s σ H (fun c H1=>Q (!c) H1) I h)
def IZ(ta tb:TE):TE:=fun σ H Q=>ta σ H fun x H1=>∃c,x= .bl c∧if c=true then tb σ H1 Q else Q (.bl false) H1
def Lb(ta tb:TE):TE:=fun σ H Q=>ta σ H fun x H1=>∃c,x= .bl c∧if c=true then Q (.bl true) H1 else tb σ H1 Q
def Ja(ta:TE):TE:=fun σ H Q=>ta σ H fun x H1=>∃c,x= .bl c∧Q (.bl (!c)) H1
theorem Gf{op}{t:TE}(h:PE X a t):PE X (.BoolOp op [a] pos) t:=fun pins s σ H Q I hw=>BoolOp_one (h pins s σ H Q I hw)
theorem F_(ha:PE X a ta)(hb:PE X (.BoolOp .And (b::rest) pos) tb):PE X (.BoolOp .And (a::b::rest) pos) (IZ ta tb):=by
 intro pins s σ H Q I h
 refine BoolOp_and (cg (ha pins s σ H _ I h) fun v s1 ⟨x,H1,I1,r1,q1⟩=>?_)
 obtain⟨c,rfl,q1⟩:=q1
 cases r1
 refine wpAny_truthy_bool ?_
 cases c with
 |true=>exact hb pins s1 σ H1 Q I1 q1
 |false=>exact⟨.bl false,H1,I1,rfl,q1⟩
theorem IC(ha:PE X a ta)(hb:PE X (.BoolOp .Or (b::rest) pos) tb):PE X (.BoolOp .Or (a::b::rest) pos) (Lb ta tb):=by
 intro pins s σ H Q I h
 refine BoolOp_or (cg (ha pins s σ H _ I h) fun v s1 ⟨x,H1,I1,r1,q1⟩=>?_)
 obtain⟨c,rfl,q1⟩:=q1
 cases r1
 refine wpAny_truthy_bool ?_
 cases c with
 |false=>exact hb pins s1 σ H1 Q I1 q1
 |true=>exact⟨.bl true,H1,I1,rfl,q1⟩
theorem Ge(ha:PE X a ta):PE X (.UnaryOp .Not a pos) (Ja ta):=by
 intro pins s σ H Q I h
 refine UnaryOp_ (cg (ha pins s σ H _ I h) fun v s1 ⟨x,H1,I1,r1,q1⟩=>?_)
 obtain⟨c,rfl,q1⟩:=q1
 cases r1
 exact not_of (wpAny_truthy_bool ⟨.bl (!c),H1,I1,rfl,q1⟩)
def Ob(t:TT)(ta tb:TE):TE:=fun σ H Q=>t σ H fun c H1=>if c=true then ta σ H1 Q else tb σ H1 Q
theorem Bn{c:Expr}(hc:PT X c tA)(ha:PE X a ta)(hb:PE X b tb):PE X (.IfExp c a b pos) (Ob tA ta tb):=by
 intro pins s σ H Q I h
 refine wpAny_IfExp (cg (hc pins s σ H _ I h) fun d s1 ⟨H1,I1,q1⟩=>?_)
 cases d with
 |true=>exact ha pins s1 σ H1 Q I1 q1
 |false=>exact hb pins s1 σ H1 Q I1 q1
end
def SqL(K:W.Frag)(H:Hp)(a:Addr)(xs:List V):Prop:=
 Rd H a (.lst xs)∨
  ∃(o:Obj) (aF:Array Value) (n:Nat),K.lookup a=some o∧o.cls= .type "list"∧o.dict=none∧o.data= .seq aF n∧aF.size≤sizeLine∧Vals xs aF.toList
def SqT(K:W.Frag)(H:Hp)(a:Addr)(xs:List V):Prop:=
 Rd H a (.tup xs)∨
  ∃(o:Obj) (aF:Array Value) (n:Nat),K.lookup a=some o∧o.cls= .type "tuple"∧o.data= .seq aF n∧aF.size≤sizeLine∧Vals xs aF.toList
def JN:Value→Option V
 | .none=>some .non
 | .bool b=>some (.bl b)
 | .int i _=>some (.int i)
 | .str x _=>some (.str x)
 | .bytes b _=>some (.byt b)
 | .float b _=>some (.flt b)
 | .ref a=>some (.ref a)
 | .type n=>some (.ty n)
 |_=>none
theorem RelV.abs{x:V}{u:Value}(r:RelV x u):JN u=some x:=by
 cases x with
 |non=>cases r;rfl
 |bl _=>cases r;rfl
 |int _=>obtain⟨t,rfl⟩:=r;rfl
 |str _=>obtain⟨t,rfl⟩:=r;rfl
 |byt _=>obtain⟨t,rfl⟩:=r;rfl
 |flt _=>obtain⟨t,rfl⟩:=r;rfl
 |ref _=>cases r;rfl
 |ty _=>cases r;rfl
theorem RelV.inj{x y:V}{u:Value}(r:RelV x u)(q:RelV y u):x=y:=Option.some.inj (r.abs.symm.trans q.abs)
theorem Vals.inj:∀{xs ys:List V}{us:List Value},Vals xs us→Vals ys us→xs=ys
 |_,_,_, .nil, .nil=>rfl
 |_,_,_, .cons r t, .cons r' t'=>by rw[r.inj r',Vals.inj t t']
section
variable{X:Cx}{pins:List (Addr×Obj)}{σ:St}{H:Hp}{s:Shared}{a:Addr}{xs ys:List V}
theorem SqL.of{K:W.Frag}(h:H a=some (.lst xs)):SqL K H a xs:= .inl (.inl h)
theorem SqT.of{K:W.Frag}(h:H a=some (.tup xs)):SqT K H a xs:= .inl (.inl h)
theorem Inv.list(I:Inv X pins σ H s)(h:SqL X.K H a xs):∃aF:List Value,Vals xs aF∧PlainL s.heap a aF.toArray∧xs.length≤sizeLine:=by
 rcases h with h | ⟨o,aF,n,hk,hc,hd,hs,hz,r⟩
 ·obtain⟨z,aF,n,r,e⟩:=h.ok I.hok
  exact⟨aF,r,⟨_,n,e,rfl,rfl,rfl⟩,z⟩
 ·refine⟨aF.toList,r,⟨o,n,I.kIn a o hk,hc,hd,by simpa using hs⟩,?_⟩
  have e:=r.length
  simp only[Array.length_toList] at e
  omega
theorem Inv.tuple(I:Inv X pins σ H s)(h:SqT X.K H a xs):∃aF:List Value,Vals xs aF∧IsTup s.heap a aF.toArray∧xs.length≤sizeLine:=by
 rcases h with h | ⟨o,aF,n,hk,hc,hs,hz,r⟩
 ·obtain⟨z,aF,r,p⟩:=h.ok I.hok
  exact⟨aF,r,p,z⟩
 ·refine⟨aF.toList,r,⟨o,I.kIn a o hk,hc,n,by simpa using hs⟩,?_⟩
  have e:=r.length
  simp only[Array.length_toList] at e
  omega
theorem Inv.list_inj(I:Inv X pins σ H s)(h:SqL X.K H a xs)(h':SqL X.K H a ys):xs=ys:=by
 obtain⟨aF,r,⟨o,n,e,_,_,d⟩,_⟩:=I.list h
 obtain⟨its',r',⟨o',n',e',_,_,d'⟩,_⟩:=I.list h'
 rw[e] at e';cases e'
 rw[d] at d'
 injection d' with d1 _
 have:aF=its':=by simpa using congrArg Array.toList d1
 subst this
 exact r.inj r'
theorem Inv.tuple_inj(I:Inv X pins σ H s)(h:SqT X.K H a xs)(h':SqT X.K H a ys):xs=ys:=by
 obtain⟨aF,r,⟨o,e,_,n,d⟩,_⟩:=I.tuple h
 obtain⟨its',r',⟨o',e',_,n',d'⟩,_⟩:=I.tuple h'
 rw[e] at e';cases e'
 rw[d] at d'
 injection d' with d1 _
 have:aF=its':=by simpa using congrArg Array.toList d1
 subst this
 exact r.inj r'
end
abbrev Cx.wish(X:Cx)(E:Value→Shared→Prop):Cx:={X with xe:=E}
abbrev Cx.nox(X:Cx):Cx:=X.wish fun _ _=>False
theorem Cx.Ok.wish{X:Cx}(ok:X.Ok)(E:Value→Shared→Prop):(X.wish E).Ok:=
 ⟨ok.mod,ok.kind,ok.glob,ok.blt,ok.above,ok.inj,ok.has,ok.cab,ok.hd,ok.frames,ok.stk,ok.exf,ok.bs,ok.bsz,ok.noex,ok.exfs,ok.funs,ok.frf⟩
theorem Cx.Ok.unwish{X:Cx}{E:Value→Shared→Prop}(ok:(X.wish E).Ok):X.Ok:=
 ⟨ok.mod,ok.kind,ok.glob,ok.blt,ok.above,ok.inj,ok.has,ok.cab,ok.hd,ok.frames,ok.stk,ok.exf,ok.bs,ok.bsz,ok.noex,ok.exfs,ok.funs,ok.frf⟩
section
variable{X:Cx}{pins:List (Addr×Obj)}{σ:St}{H:Hp}{s:Shared}{E:Value→Shared→Prop}
theorem Inv.wish(I:Inv X pins σ H s)(E:Value→Shared→Prop):Inv (X.wish E) pins σ H s:=⟨I.ok.wish E,I.os,I.bare,I.base,I.loc,I.cell,I.free,I.freeC,I.pin,I.hok,I.len⟩
theorem Inv.unwish(I:Inv (X.wish E) pins σ H s):Inv X pins σ H s:=⟨I.ok.unwish,I.os,I.bare,I.base,I.loc,I.cell,I.free,I.freeC,I.pin,I.hok,I.len⟩
theorem SP.unwish{D:Ends}{f:Flow}{s':Shared}(h:SP (X.wish E) pins D f s'):SP X pins D f s':=by
 cases f with
 |next=>obtain⟨σ',H',I,q⟩:=h;exact⟨σ',H',I.unwish,q⟩
 |brk=>obtain⟨σ',H',I,q⟩:=h;exact⟨σ',H',I.unwish,q⟩
 |cont=>obtain⟨σ',H',I,q⟩:=h;exact⟨σ',H',I.unwish,q⟩
 |ret u=>obtain⟨v,σ',H',I,r,q⟩:=h;exact⟨v,σ',H',I.unwish,r,q⟩
theorem PE.nox{e:Expr}{t:TE}(h:PE X.nox e t):PE X e t:=fun pins s σ H Q I hw=>
 wpAny_mono (h pins s σ H Q (I.wish _) hw) (fun _ _ ⟨v,H',I',r,q⟩=>⟨v,H',I'.unwish,r,q⟩) fun _ _ z=>False.elim z
theorem PT.nox{e:Expr}{t:TT}(h:PT X.nox e t):PT X e t:=fun pins s σ H Q I hw=>
 wpAny_mono (h pins s σ H Q (I.wish _) hw) (fun _ _ ⟨H',I',q⟩=>⟨H',I'.unwish,q⟩) fun _ _ z=>False.elim z
theorem PSs.nox{st:List Stmt}{t:TS}(h:PSs X.nox st t):PSs X st t:=fun pins s σ H D I hw=>
 wpAny_mono (h pins s σ H D (I.wish _) hw) (fun _ _ q=>q.unwish) fun _ _ z=>False.elim z
end
section
variable{X:Cx}{st:Stmt}{rest:List Stmt}{t u:TS}{e:Expr}{te:TE}{pos:Pos}
def I_:TS:=fun D σ H=>D.nx σ H
def Ld(t u:TS):TS:=fun D σ H=>t {D with nx:=u D} σ H
theorem DC:PSs X [] I_:=fun _ _ σ H _ I h=>wpAny_execs_nil ⟨σ,H,I,h⟩
theorem Br(h1:PS X st t)(h2:PSs X rest u):PSs X (st::rest) (Ld t u):=by
 intro pins s σ H D I h
 refine wpAny_execs_cons (cg (h1 pins s σ H {D with nx:=u D} I h) fun f s1 q=>?_)
 cases f with
 |next=>
  obtain⟨σ',H',I',q⟩:=q
  exact h2 pins s1 σ' H' D I' q
 |ret v=>exact q
 |brk=>exact q
 |cont=>exact q
theorem DD(h1:PS X st t):PSs X [st] t:=by
 intro pins s σ H D I h
 refine wpAny_execs_cons (cg (h1 pins s σ H D I h) fun f s1 q=>?_)
 cases f with
 |next=>exact wpAny_execs_nil q
 |ret v=>exact q
 |brk=>exact q
 |cont=>exact q
theorem Inv.quiet{pins:List (Addr×Obj)}{σ:St}{H:Hp}{s:Shared}(I:Inv X pins σ H s):interactive X.env=false:=by simp[interactive,I.ok.kind]
def BX(te:TE):TS:=fun D σ H=>te σ H fun _ H1=>D.nx σ H1
theorem mN(he:PE X e te)(hs:swapsWith e none pos.line X.env=pure false:=by rfl):PS X (.Expr e pos) (BX te):=by
 intro pins s σ H D I h
 exact wpAny_Expr_any (cg (he pins s σ H _ I h) fun v s1 ⟨x,H1,I1,r1,q1⟩=>⟨σ,H1,I1,q1⟩) I.quiet hs
def Lc(te:TE):TS:=fun D σ H=>te σ H D.rt
theorem Gp(he:PE X e te):PS X (.Return (some e) pos) (Lc te):=by
 intro pins s σ H D I h
 exact wpAny_Return_some (cg (he pins s σ H _ I h) fun v s1 ⟨x,H1,I1,r1,q1⟩=>⟨x,σ,H1,I1,r1,q1⟩)
def K9(c:TT)(t u:TS):TS:=fun D σ H=>c σ H fun b H1=>if b=true then t D σ H1 else u D σ H1
theorem ID{c:Expr}{a b:List Stmt}{tc:TT}(hc:PT X c tc)(ha:PSs X a t)(hb:PSs X b u):PS X (.If c a b pos) (K9 tc t u):=by
 intro pins s σ H D I h
 refine wpAny_If (cg (hc pins s σ H _ I h) fun d s1 ⟨H1,I1,q1⟩=>?_)
 cases d with
 |true=>exact ha pins s1 σ H1 D I1 q1
 |false=>exact hb pins s1 σ H1 D I1 q1
end
abbrev TG:=V→St→Hp→(St→Hp→Prop)→Prop
def PG(X:Cx)(target:Expr)(t:TG):Prop:=
 ∀(pins:List (Addr×Obj)) (s:Shared) (σ:St) (H:Hp) (v:V) (u:Value) (Q:St→Hp→Prop),Inv X pins σ H s→RelV v u→t v σ H Q→
  wpAny (model X.prog X.w) X.A (assign target X.env u) (fun _ s'=>∃σ' H',Inv X pins σ' H' s'∧Q σ' H') X.xe s
abbrev JK:=V→V→V→Hp→(Hp→Prop)→Prop
section
variable{X:Cx}{pos:Pos}
def Ej(i:Nat):TG:=fun v σ H Q=>Q (σ.set i (some v)) H
theorem bE{i:Nat}{x:Str}(hN:X.N.Nodup)(hi:X.N[i]? =some x)(hx:Loc X.env.scope x)(hf:X.fn x=true∨X.env.scope.names.lookup x=some .local:=by first | exact .inl rfl | exact .inr rfl | assumption):PG X (.Name x pos) (Ej i):=by
 intro pins s σ H v u Q I r h
 exact wpAny_assign_Name (u4 I hN hi hx r (fun s' I'=>⟨_,H,I',h⟩) hf)
def mq(to ti:TE)(t:JK):TG:=fun v σ H Q=>to σ H fun o H1=>ti σ H1 fun i H2=>t o i v H2 fun H3=>Q σ H3
def K3(te:TE)(g:TG):TS:=fun D σ H=>te σ H fun x H1=>g x σ H1 D.nx
theorem sf{tg e:Expr}{te:TE}{g:TG}(he:PE X e te)(hg:PG X tg g)(hs:swapsWithSole [tg] e pos.line X.env=pure false:=by rfl)(hw:swappedStores [tg] e X.env=pure none:=by rfl)
 (h1:(assignEach [tg] X.env).map (·.2)=[assign tg X.env]:=by rfl):PS X (.Assign [tg] e pos) (K3 te g):=by
 intro pins s σ H D I h
 refine wpAny_Assign_stores (cg (he pins s σ H _ I h) fun v s1 ⟨x,H1,I1,r1,q1⟩=>?_) hs hw
 rw[h1]
 exact cg (hg pins s1 σ H1 x v _ I1 r1 q1) fun _ s2 q=>q
end
section
variable{X:Cx}{pos:Pos}
def GL(c:TT)(tb:TS):TS:=fun D σ H=>∃W:Nat→St→Hp→Prop,(∃m,W m σ H)∧∀m σ H,W m σ H→
 c σ H fun b H1=>if b=true then∃N:St→Hp→Prop,(∀σ' H',N σ' H'→∃m',m'<m∧W m' σ' H')∧tb {D with nx:=N,ct:=N,bk:=D.nx} σ H1 else D.nx σ H1
theorem Bq{c:Expr}{body:List Stmt}{tc:TT}{tb:TS}(hp:PassesOwn (model X.prog X.w) X.A X.env X.xe)(hc:PT X c tc)(hb:PSs X body tb):PS X (.While c body [] pos) (GL tc tb):=by
 intro pins s σ H D I h
 obtain⟨W,⟨m0,w0⟩,turn⟩:=h
 refine wpAny_While (codeAny_whileLoop (fun n s'=>∃σ' H',Inv X pins σ' H' s'∧W n σ' H') ?_ m0 ⟨σ,H,I,w0⟩)
 rintro n s1 ⟨σ1,H1,I1,w1⟩
 refine wpAny_passesOwn hp (cg (hc pins s1 σ1 H1 _ I1 (turn n σ1 H1 w1)) fun b s2 ⟨H2,I2,q2⟩=>?_)
 cases b with
 |true=>
  obtain⟨N,hN,q2⟩:=q2
  rw[if_pos rfl]
  refine wpAny_passesOwn hp (cg (hb pins s2 σ1 H2 _ I2 q2) fun f s3 q3=>?_)
  cases f with
  |next=>
   obtain⟨σ3,H3,I3,n3⟩:=q3
   obtain⟨m',hm,w3⟩:=hN σ3 H3 n3
   exact⟨m',hm,σ3,H3,I3,w3⟩
  |cont=>
   obtain⟨σ3,H3,I3,n3⟩:=q3
   obtain⟨m',hm,w3⟩:=hN σ3 H3 n3
   exact⟨m',hm,σ3,H3,I3,w3⟩
  |brk=>exact q3
  |ret v=>exact q3
 |false=>
  rw[if_neg Bool.false_ne_true]
  exact wpAny_execs_nil ⟨σ1,H2,I2,q2⟩
end
structure It where
 go:Nat→Hp→Prop
 yld:Nat→Hp→V→Hp→Prop
 stop:Nat→Hp→Prop
def s8(X:Cx)(pins:List (Addr×Obj))(H:Hp)(b:Addr):Prop:=
 H b=none∧b≠X.env.locals∧b∉X.fs∧(b∈X.ex∨X.s₀.heap.objs.size≤b)∧(∀x c,X.env.cells.lookup x=some c→c≠b)∧∀p∈X.pn++pins,p.1≠b
theorem Inv.fpOk{X:Cx}{pins:List (Addr×Obj)}{σ:St}{H H':Hp}{s:Shared}{b:Addr}(I:Inv X pins σ H s)(hb:s.heap.objs.size≤b)(hn:H' b=none):s8 X pins H' b:=by
 refine⟨hn,Nat.ne_of_gt (Nat.lt_of_lt_of_le I.lt hb),I.nofs hb, .inr (Nat.le_trans I.sz hb),fun x c e z=>?_,fun p hp z=>?_⟩
 ·obtain⟨v,q⟩:=I.cell x c e
  exact absurd (Nat.lt_of_lt_of_le q.lt (by rw[z];exact hb)) (Nat.lt_irrefl _)
 ·exact absurd (Nat.lt_of_lt_of_le (Heap.lt_size (I.pin p hp).1) (by rw[z];exact hb)) (Nat.lt_irrefl _)
structure Turn (P:Program) (w:World) (K:W.Frag) (tg:Expr) (J:It) (fp:List Addr) (it:Addr) (tn:Nat→Heap→Prop):Prop where
 mem:it∈fp
 obj:∀i h,tn i h→∀b∈fp,∃o,h.get? b=some o∧∀v,o.data≠ .cell v
 keep:∀i h h',tn i h→(∀b∈fp,∀o,h.get? b=some o→h'.get? b=some o)→tn i h'
 item:∀(X:Cx),X.prog=P→X.w=w→X.K=K→X.calm=true→∀(i:Nat) (pins:List (Addr×Obj)) (s:Shared) (σ:St) (H:Hp) (E:Value→Shared→Prop),Inv X pins σ H s→(∀b∈fp,s8 X pins H b)→tn i s.heap→J.go i H→
  wpAny (model P w) X.A (pyNext (.ref it)) (fun r s1=>∃u,r=some u∧
   wpAny (model P w) X.A (letOwnedTupleGo tg (.ref it) u) (fun _ s2=>∃x H',Inv X pins σ H' s2∧RelV x u∧J.yld i H x H'∧tn (i+1) s2.heap∧∀b∈fp,H' b=none) E s1) E s
 done:∀(X:Cx),X.prog=P→X.w=w→X.K=K→X.calm=true→∀(i:Nat) (pins:List (Addr×Obj)) (s:Shared) (σ:St) (H:Hp) (E:Value→Shared→Prop),Inv X pins σ H s→(∀b∈fp,s8 X pins H b)→tn i s.heap→J.stop i H→
  wpAny (model P w) X.A (pyNext (.ref it)) (fun r s1=>r=none∧Inv X pins σ H s1) E s
 self:∀(A:Around) (i:Nat) (s:Shared) (Q:Value→Shared→Prop) (E:Value→Shared→Prop),tn i s.heap→Q (.ref it) s→wpAny (model P w) A (pyIter (.ref it)) Q E s
abbrev TI:=St→Hp→(It→Hp→Prop)→Prop
def Lk(X:Cx)(pins:List (Addr×Obj))(σ:St)(tg:Expr)(R:It→Hp→Prop)(Mb:Value)(s2:Shared):Prop:=
 ∃(it:Addr) (fp:List Addr) (tn:Nat→Heap→Prop) (J:It) (H':Hp),Mb= .ref it∧Inv X pins σ H' s2∧Turn X.prog X.w X.K tg J fp it tn∧tn 0 s2.heap∧(∀b∈fp,s8 X pins H' b)∧R J H'
def PI(X:Cx)(tg iter:Expr)(wi:TI):Prop:=
 ∀(pins:List (Addr×Obj)) (s:Shared) (σ:St) (H:Hp) (R:It→Hp→Prop),Inv X pins σ H s→wi σ H R→
  wpAny (model X.prog X.w) X.A (eval iter X.env) (fun v s1=>wpAny (model X.prog X.w) X.A (pyIter v) (Lk X pins σ tg R) X.xe s1) X.xe s
theorem qb{M:Model}{A:Around}{E:Value→Shared→Prop}{s:Shared}{tg:Expr}{it:Addr}{u:Value}{o:Obj}{n:String}{vs:Array Value}{Q:Unit→Shared→Prop}(ho:s.heap.get? it=some o)(hc:o.cls= .type n)(hd:o.data= .fields vs)
 (hn:["enumerate","zip","dict_itemiterator","dict_reverseitemiterator","odict_iterator","itertools.zip_longest","itertools.pairwise"].contains n=false)(hQ:Q () s):wpAny M A (letOwnedTupleGo tg (.ref it) u) Q E s:=by
 unfold letOwnedTupleGo
 cases tg<;>first
  |exact wpAny_pure hQ
  |(cases u<;>first
    |exact wpAny_pure hQ
    |(refine wpAny_bind (wpAny_load ho ?_)
      rw[hc,hd]
      show wpAny M A (if (["enumerate","zip","dict_itemiterator","dict_reverseitemiterator","odict_iterator","itertools.zip_longest","itertools.pairwise"].contains n&&vs[0]? ==some (rawInt _))=true then _ else _) Q E s
      rw[if_neg (by intro h;rw[hn,Bool.false_and] at h;cases h)]
      exact wpAny_pure hQ))
def JG(K:W.Frag)(a:Addr):It:=
 ⟨fun i H=>∃xs x,SqL K H a xs∧xs[i]? =some x,fun i H x H'=>H'=H∧∀xs,SqL K H a xs→xs[i]? =some x,fun i H=>∃xs,SqL K H a xs∧xs.length≤i⟩
def JH(K:W.Frag)(a:Addr):It:=
 ⟨fun i H=>∃xs x,SqT K H a xs∧xs[i]? =some x,fun i H x H'=>H'=H∧∀xs,SqT K H a xs→xs[i]? =some x,fun i H=>∃xs,SqT K H a xs∧xs.length≤i⟩
def G4(lo:Int)(n:Nat):It:=⟨fun i _=>i<n,fun i H x H'=>H'=H∧x= .int (lo+i),fun i _=>n≤i⟩
theorem zu{P:Program}{w:World}{K:W.Frag}{tg:Expr}(a it:Addr):Turn P w K tg (JG K a) [it] it (fun i h=>h.IsListIter it a i) where
 mem:=by simp
 obj:=fun i h st b hb=>by
  have e:b=it:=by simpa using hb
  subst e
  obtain⟨o,e,c,d⟩:=st
  exact⟨o,e,fun v z=>by rw[d] at z;cases z⟩
 keep:=fun i h h' st k=>st.at fun o e=>k it (by simp) o e
 item:=by
  intro X hP hw hK hc i pins s σ H E I hf st hg
  subst hP hw hK
  obtain⟨xs,x,hq,hx⟩:=hg
  obtain⟨aF,rv,p,hz⟩:=I.list hq
  obtain⟨u,hu,ru⟩:=rv.get hx
  obtain⟨f0,f1,f2,f3,f4,f5⟩:=hf it (by simp)
  refine wpAny_pyNext_list_item st p.isList (x:=u) (by simpa using hu) fun h' o5 sb=>?_
  have I1:Inv X pins σ H {s with heap:=h'}:=I.turned (t':=s.toks) (fun b o hb e=>(sb.2 b hb).trans e) f0 f1 f3 f4 f5
  obtain⟨o,e,c,d⟩:=id o5
  exact⟨u,rfl,qb (s:={s with heap:=h'}) e c d (by decide) ⟨x,H,I1,ru,⟨rfl,fun ys hy=>by rw[I.list_inj hy hq];exact hx⟩,o5,fun b hb=>(hf b hb).1⟩⟩
 done:=by
  intro X hP hw hK hc i pins s σ H E I hf st hg
  subst hP hw hK
  obtain⟨xs,hq,hx⟩:=hg
  obtain⟨aF,rv,p,hz⟩:=I.list hq
  obtain⟨f0,f1,f2,f3,f4,f5⟩:=hf it (by simp)
  have hl:=rv.length
  exact wpAny_pyNext_list_end (I.ok.hd hc) st p.isList (by simp;omega) fun h' eb=>⟨rfl,I.turned (t':=s.toks) (fun b o hb e=>eb b o hb e) f0 f1 f3 f4 f5⟩
 self:=fun _ _ _ _ _ st h=>wpAny_pyIter_listiter st h
theorem wJ{P:Program}{w:World}{K:W.Frag}{tg:Expr}(a it:Addr):Turn P w K tg (JH K a) [it] it (fun i h=>h.IsTupleIter it a i) where
 mem:=by simp
 obj:=fun i h st b hb=>by
  have e:b=it:=by simpa using hb
  subst e
  obtain⟨o,e,c,d⟩:=st
  exact⟨o,e,fun v z=>by rw[d] at z;cases z⟩
 keep:=fun i h h' st k=>st.at fun o e=>k it (by simp) o e
 item:=by
  intro X hP hw hK hc i pins s σ H E I hf st hg
  subst hP hw hK
  obtain⟨xs,x,hq,hx⟩:=hg
  obtain⟨aF,rv,p,hz⟩:=I.tuple hq
  obtain⟨u,hu,ru⟩:=rv.get hx
  obtain⟨f0,f1,f2,f3,f4,f5⟩:=hf it (by simp)
  refine wpAny_pyNext_tuple_item st (show s.heap.IsTuple a aF.toArray from p) (x:=u) (by simpa using hu) fun h' o5 sb=>?_
  have I1:Inv X pins σ H {s with heap:=h'}:=I.turned (t':=s.toks) (fun b o hb e=>(sb.2 b hb).trans e) f0 f1 f3 f4 f5
  obtain⟨o,e,c,d⟩:=id o5
  exact⟨u,rfl,qb (s:={s with heap:=h'}) e c d (by decide) ⟨x,H,I1,ru,⟨rfl,fun ys hy=>by rw[I.tuple_inj hy hq];exact hx⟩,o5,fun b hb=>(hf b hb).1⟩⟩
 done:=by
  intro X hP hw hK hc i pins s σ H E I hf st hg
  subst hP hw hK
  obtain⟨xs,hq,hx⟩:=hg
  obtain⟨aF,rv,p,hz⟩:=I.tuple hq
  obtain⟨f0,f1,f2,f3,f4,f5⟩:=hf it (by simp)
  have hl:=rv.length
  exact wpAny_pyNext_tuple_end (I.ok.hd hc) st (show s.heap.IsTuple a aF.toArray from p) (by simp;omega) fun h' eb=>⟨rfl,I.turned (t':=s.toks) (fun b o hb e=>eb b o hb e) f0 f1 f3 f4 f5⟩
 self:=fun _ _ _ _ _ st h=>wpAny_pyIter_tupleiter st h
theorem wI{P:Program}{w:World}{K:W.Frag}{tg:Expr}(it:Addr)(lo:Int)(n:Nat):Turn P w K tg (G4 lo n) [it] it (fun i h=>IsRangeIter h it (lo+(i:Nat)*1) ((n:Int) - (i:Nat)) 1) where
 mem:=by simp
 obj:=fun i h st b hb=>by
  have e:b=it:=by simpa using hb
  subst e
  exact⟨_,st,fun v z=>by
   have z':Data.fields _=Data.cell v:=z
   cases z'⟩
 keep:=fun i h h' st k=>k it (by simp) _ st
 item:=by
  intro X hP hw hK hc i pins s σ H E I hf st hg
  subst hP hw hK
  obtain⟨f0,f1,f2,f3,f4,f5⟩:=hf it (by simp)
  have W:=Walks.range (prog:=X.prog) (w:=X.w) (I.ok.hd hc) it lo 1 n
  refine W.item i s _ _ hg st fun v h' tk hv o5 kk=>?_
  obtain⟨t,rfl⟩:=hv
  have I1:Inv X pins σ H {s with heap:=h',toks:=tk}:=I.turned (fun b o hb e=>kk b o (by simpa using hb) e) f0 f1 f3 f4 f5
  refine⟨_,rfl,qb (s:={s with heap:=h',toks:=tk}) (n:="range_iterator") o5 rfl rfl (by decide) ⟨.int (lo+i),H,I1,⟨t,?_⟩,⟨rfl,rfl⟩,o5,fun b hb=>(hf b hb).1⟩⟩
  rw[Int.mul_one]
 done:=by
  intro X hP hw hK hc i pins s σ H E I hf st hg
  subst hP hw hK
  obtain⟨f0,f1,f2,f3,f4,f5⟩:=hf it (by simp)
  exact wpAny_pyNext_range_end (I.ok.hd hc) st (by have:n≤i:=hg;omega) fun h' eb=>⟨rfl,I.turned (t':=s.toks) (fun b o hb e=>eb b o hb e) f0 f1 f3 f4 f5⟩
 self:=fun _ _ _ _ _ st h=>wpAny_pyIter_rangeiter st h
section
variable{X:Cx}{tg:Expr}
def H_(K:W.Frag)(tl:TE):TI:=fun σ H R=>tl σ H fun x H1=>∃a,x= .ref a∧(∃xs,SqL K H1 a xs)∧R (JG K a) H1
def KC(K:W.Frag)(tl:TE):TI:=fun σ H R=>tl σ H fun x H1=>∃a,x= .ref a∧(∃xs,SqT K H1 a xs)∧R (JH K a) H1
theorem Dy{l:Expr}{tl:TE}(hl:PE X l tl):PI X tg l (H_ X.K tl):=by
 intro pins s σ H R I h
 refine cg (hl pins s σ H _ I h) fun v s1 ⟨x,H1,I1,r1,q1⟩=>?_
 obtain⟨a,e,⟨xs,hq⟩,q⟩:=q1
 subst e
 cases r1
 obtain⟨aF,rv,p,hz⟩:=I1.list hq
 refine wpAny_pyIter_list p.isList ?_
 refine⟨s1.heap.objs.size,[s1.heap.objs.size],_,_,H1,rfl,I1.kept (t':=s1.toks) fun b o e=>Heap.get?_push_of_some _ e,zu a _,⟨_,Heap.get?_push_size _ rfl,rfl,rfl⟩,fun b hb=>?_,q⟩
 have e:b=s1.heap.objs.size:=by simpa using hb
 subst e
 exact I1.fpOk (Nat.le_refl _) (I1.hok.fresh (Nat.le_refl _))
theorem Gm{l:Expr}{tl:TE}(hl:PE X l tl):PI X tg l (KC X.K tl):=by
 intro pins s σ H R I h
 refine cg (hl pins s σ H _ I h) fun v s1 ⟨x,H1,I1,r1,q1⟩=>?_
 obtain⟨a,e,⟨xs,hq⟩,q⟩:=q1
 subst e
 cases r1
 obtain⟨aF,rv,p,hz⟩:=I1.tuple hq
 refine wpAny_pyIter_tuple (show s1.heap.IsTuple a aF.toArray from p) ?_
 refine⟨s1.heap.objs.size,[s1.heap.objs.size],_,_,H1,rfl,I1.kept (t':=s1.toks) fun b o e=>Heap.get?_push_of_some _ e,wJ a _,⟨_,Heap.get?_push_size _ rfl,rfl,rfl⟩,fun b hb=>?_,q⟩
 have e:b=s1.heap.objs.size:=by simpa using hb
 subst e
 exact I1.fpOk (Nat.le_refl _) (I1.hok.fresh (Nat.le_refl _))
theorem uK{pins:List (Addr×Obj)}{σ:St}{H:Hp}{s:Shared}{R:It→Hp→Prop}{E:Value→Shared→Prop}{lo hi:Int}{t u v:Tok}{tk:Nat}(I:Inv X pins σ H s)(h1: -(2 ^ 62)≤lo)(h2:lo<2 ^ 62)(h3: -(2 ^ 62)≤hi)(h4:hi<2 ^ 62)
 (q:R (G4 lo (hi - lo).toNat) H):wpAny (model X.prog X.w) X.A (pyIter (.ref s.heap.objs.size)) (Lk X pins σ tg R) E {s with heap:=s.heap.push {cls:= .type "range",data:= .fields #[.int lo t, .int hi u, .int 1 v]},toks:=tk}:=by
 refine wpAny_pyIter_range (IsRange.new ..) (small_one h1 h2 h3 h4) ?_
 have I1:Inv X pins σ H {s with heap:=s.heap.push {cls:= .type "range",data:= .fields #[.int lo t, .int hi u, .int 1 v]},toks:=tk}:=I.kept fun b o e=>Heap.get?_push_of_some _ e
 refine⟨(s.heap.push {cls:= .type "range",data:= .fields #[.int lo t, .int hi u, .int 1 v]}).objs.size,[(s.heap.push {cls:= .type "range",data:= .fields #[.int lo t, .int hi u, .int 1 v]}).objs.size],_,_,H,rfl,
  I1.kept (t':=tk) fun b o e=>Heap.get?_push_of_some _ e,wI _ lo (hi - lo).toNat,?_,fun b hb=>?_,q⟩
 ·have e1:lo+((0:Nat):Int)*1=lo:=by simp
  have e2:(((hi - lo).toNat:Nat):Int) - ((0:Nat):Int)=Builtin.Range.rangeSize lo hi 1:=by rw[rangeSize_one];split<;>omega
  show IsRangeIter _ _ (lo+((0:Nat):Int)*1) ((((hi - lo).toNat:Nat):Int) - ((0:Nat):Int)) 1
  rw[e1,e2]
  exact Heap.get?_push_size _ rfl
 ·have e:b=(s.heap.push {cls:= .type "range",data:= .fields #[.int lo t, .int hi u, .int 1 v]}).objs.size:=by simpa using hb
  subst e
  exact I1.fpOk (Nat.le_refl _) (I1.hok.fresh (Nat.le_refl _))
def Ia(ta:TA):TI:=fun σ H R=>ta σ H fun vs H1=>∃j:Int,vs=[.int j]∧ -(2 ^ 62)≤j∧j<2 ^ 62∧R (G4 0 j.toNat) H1
def Ib(ta:TA):TI:=fun σ H R=>ta σ H fun vs H1=>∃i j:Int,vs=[.int i, .int j]∧(-(2 ^ 62)≤i∧i<2 ^ 62∧ -(2 ^ 62)≤j∧j<2 ^ 62)∧R (G4 i (j - i).toNat) H1
theorem zi{a:Expr}{ta:TA}{p pos:Pos}(hg:Gl X "range")(hm:X.mg "range"=none)(ha:PA X [a] ta)(hs:starEach [a] X.env=[(false,eval a X.env)]:=by rfl):PI X tg (.Call (.Name "range" p) [a] [] pos) (Ia ta):=by
 intro pins s σ H R I h
 refine Call_ (jG I hg hm boot_range (PyProof.Rows.callWith_type1 (cg (ha pos pins s σ H _ I h) fun us s1 ⟨vs,H1,I1,r1,q1⟩=>?_) hs rfl))
 obtain⟨j,e,q1,q2,q⟩:=q1
 subst e
 cases r1 with
 |cons r rr=>
  cases rr
  obtain⟨t,rfl⟩:=r
  exact call_range_1 (uK I1 (by omega) (by omega) q1 q2 (by simpa using q))
theorem zj{a b:Expr}{ta:TA}{p pos:Pos}(hg:Gl X "range")(hm:X.mg "range"=none)(ha:PA X [a,b] ta)(hs:starEach [a,b] X.env=[(false,eval a X.env),(false,eval b X.env)]:=by rfl)(Jp:starEach [b] X.env=[(false,eval b X.env)]:=by rfl):
 PI X tg (.Call (.Name "range" p) [a,b] [] pos) (Ib ta):=by
 intro pins s σ H R I h
 refine Call_ (jG I hg hm boot_range (PyProof.Rows.callWith_type1 (cg (ha pos pins s σ H _ I h) fun us s1 ⟨vs,H1,I1,r1,q1⟩=>?_) (by rw[hs,Jp]) (by rw[Jp];rfl)))
 obtain⟨i,j,e,⟨q1,q2,q3,q4⟩,q⟩:=q1
 subst e
 cases r1 with
 |cons r rr=>
  cases rr with
  |cons r' rr=>
   cases rr
   obtain⟨t,rfl⟩:=r
   obtain⟨t',rfl⟩:=r'
   exact call_range_2 (uK I1 q1 q2 q3 q4 q)
def K8(wi:TI)(g:TG)(tb:TS):TS:=fun D σ H=>wi σ H fun J H1=>∃W:Nat→Nat→St→Hp→Prop,(∃m,W 0 m σ H1)∧∀i m σ H,W i m σ H→
 (J.stop i H∧D.nx σ H)∨(J.go i H∧∃N:St→Hp→Prop,(∀σ' H',N σ' H'→∃m',m'<m∧W (i+1) m' σ' H')∧∀x H',J.yld i H x H'→g x σ H' fun σ2 H2=>tb {D with nx:=N,ct:=N,bk:=D.nx} σ2 H2)
def oO(fp:List Addr)(h:Heap):List (Addr×Obj):=fp.filterMap fun b=>(h.get? b).map fun o=>(b,o)
theorem gL{fp:List Addr}{h:Heap}{b:Addr}{o:Obj}(hb:b∈fp)(e:h.get? b=some o):(b,o)∈oO fp h:=List.mem_filterMap.mpr ⟨b,hb,by rw[e];rfl⟩
theorem y4{fp:List Addr}{h:Heap}{p:Addr×Obj}(hp:p∈oO fp h):p.1∈fp∧h.get? p.1=some p.2:=by
 obtain⟨b,hb,e⟩:=List.mem_filterMap.mp hp
 cases q:h.get? b with
 |none=>rw[q] at e;cases e
 |some o=>
  rw[q] at e
  have e':(b,o)=p:=Option.some.inj e
  subst e'
  exact⟨hb,q⟩
theorem Inv.pinned{pins:List (Addr×Obj)}{σ:St}{H:Hp}{s:Shared}{fp:List Addr}(I:Inv X pins σ H s)(hf:∀b∈fp,s8 X pins H b)(ho:∀b∈fp,∃o,s.heap.get? b=some o∧∀v,o.data≠ .cell v):Inv X (pins++oO fp s.heap) σ H s:=
 I.pins_of fun p hp=>(List.mem_append.mp hp).elim (fun z=>I.pin p (List.mem_append_right _ z)) fun z=>by
  obtain⟨hb,e⟩:=y4 z
  obtain⟨f0,f1,f2,_⟩:=hf p.1 hb
  obtain⟨o,e',d⟩:=ho p.1 hb
  rw[e] at e';cases e'
  exact⟨e,f0,f1,f2,d⟩
theorem Inv.unpinned{pins pl:List (Addr×Obj)}{σ:St}{H:Hp}{s:Shared}(I:Inv X (pins++pl) σ H s):Inv X pins σ H s:=I.pins_of fun p hp=>I.pin p (List.mem_append_right _ (List.mem_append_left _ hp))
theorem Gn{iter:Expr}{body:List Stmt}{wi:TI}{g:TG}{tb:TS}{pos:Pos}(hp:PassesOwn (model X.prog X.w) X.A X.env X.xe)(hc:X.calm=true)(hi:PI X tg iter wi)(hg:PG X tg g)(hb:PSs X body tb)
 (hs:∀x,foldedSetIterable iter X.env x=pure x:=by intro _;rfl):PS X (.For tg iter body [] pos) (K8 wi g tb):=by
 intro pins s σ H D I h
 refine wpAny_For (cg (hi pins s σ H _ I h) fun v s1 h1=>cg h1 fun Mb s2 h2=>?_) hs
 obtain⟨it,fp,tn,J,H2,e,I2,T,IY,f2,W,⟨m0,w0⟩,turn⟩:=h2
 subst e
 have GI:∀{H':Hp},(∀b∈fp,H' b=none)→∀b∈fp,s8 X pins H' b:=fun hn b hb=>⟨hn b hb,(f2 b hb).2⟩
 refine codeAny_forLoop_any (fun n s'=>∃i σ' H',Inv X pins σ' H' s'∧tn i s'.heap∧(∀b∈fp,H' b=none)∧W i n σ' H') ?_ m0 ⟨0,σ,H2,I2,IY,fun b hb=>(f2 b hb).1,w0⟩
 rintro n s3 ⟨i,σ3,H3,I3,G0,Jh,w3⟩
 rcases turn i n σ3 H3 w3 with⟨stop,qn⟩ | ⟨go,N,hN,step⟩
 ·refine wpAny_passesOwn hp (cg (T.done X rfl rfl rfl hc i pins s3 σ3 H3 X.xe I3 (GI Jh) G0 stop) fun r s4 ⟨hr,I4⟩=>?_)
  subst hr
  exact wpAny_execs_nil ⟨σ3,H3,I4,qn⟩
 ·refine wpAny_passesOwn hp (cg (T.item X rfl rfl rfl hc i pins s3 σ3 H3 X.xe I3 (GI Jh) G0 go) fun r s4 ⟨u,hr,h4⟩=>?_)
  subst hr
  refine wpAny_passesOwn hp (cg h4 fun _ s5 ⟨x,H5,I5,r5,y5,K0,MI⟩=>?_)
  have I5':=I5.pinned (GI MI) (T.obj _ _ K0)
  refine wpAny_passesOwn hp (cg (hg _ s5 σ3 H5 x u _ I5' r5 (step x H5 y5)) fun _ s6 ⟨σ6,H6,I6,q6⟩=>?_)
  refine wpAny_passesOwn hp (cg (hb _ s6 σ6 H6 _ I6 q6) fun f s7 q7=>?_)
  have again:∀{σ7:St}{H7:Hp},Inv X (pins++oO fp s5.heap) σ7 H7 s7→N σ7 H7→∃m,m<n∧∃i σ' H',Inv X pins σ' H' s7∧tn i s7.heap∧(∀b∈fp,H' b=none)∧W i m σ' H':=fun {σ7 H7} I7 n7=>by
   obtain⟨m',hm,w7⟩:=hN σ7 H7 n7
   refine⟨m',hm,i+1,σ7,H7,I7.unpinned,T.keep _ _ _ K0 fun b hb o e=>(I7.pin (b,o) (List.mem_append_right _ (List.mem_append_right _ (gL hb e)))).1,fun b hb=>?_,w7⟩
   obtain⟨o,e,d⟩:=T.obj _ _ K0 b hb
   exact(I7.pin (b,o) (List.mem_append_right _ (List.mem_append_right _ (gL hb e)))).2.1
  cases f with
  |next=>obtain⟨σ7,H7,I7,n7⟩:=q7;exact again I7 n7
  |cont=>obtain⟨σ7,H7,I7,n7⟩:=q7;exact again I7 n7
  |brk=>obtain⟨σ7,H7,I7,q7⟩:=q7;exact⟨σ7,H7,I7.unpinned,q7⟩
  |ret v=>obtain⟨x7,σ7,H7,I7,r7,q7⟩:=q7;exact⟨x7,σ7,H7,I7.unpinned,r7,q7⟩
end
abbrev R2:=V→V→Hp→VK→Prop
def OpR(X:Cx)(f:Value→Value→Sem Value)(r:R2):Prop:=
 ∀(pins:List (Addr×Obj)) (s:Shared) (σ:St) (H:Hp) (x y:V) (v u:Value) (Q:VK),Inv X pins σ H s→RelV x v→RelV y u→r x y H Q→
  wpAny (model X.prog X.w) X.A (f v u) (EP X pins σ Q) X.xe s
def CallR(X:Cx)(f:Value)(r:List V→Hp→VK→Prop):Prop:=
 ∀(pins:List (Addr×Obj)) (s:Shared) (σ:St) (H:Hp) (xs:List V) (us:List Value) (Q:VK),Inv X pins σ H s→Vals xs us→r xs H Q→
  wpAny (model X.prog X.w) X.A (call f us) (EP X pins σ Q) X.xe s
def JL(X:Cx)(r:V→Hp→(Bool→Hp→Prop)→Prop):Prop:=
 ∀(pins:List (Addr×Obj)) (s:Shared) (σ:St) (H:Hp) (x:V) (v:Value) (Q:Bool→Hp→Prop),Inv X pins σ H s→RelV x v→r x H Q→
  wpAny (model X.prog X.w) X.A (truthy v) (TP X pins σ Q) X.xe s
def Jb(r:R2)(ta tb:TE):TE:=fun σ H Q=>ta σ H fun x H1=>tb σ H1 fun y H2=>r x y H2 Q
def rI(C:Int→Int→Prop)(g:Int→Int→V):R2:=fun x y H Q=>∃i j,x= .int i∧y= .int j∧C i j∧Q (g i j) H
def x_(g:Int→Int→V):R2:=fun x y H Q=>∃i j,x= .int i∧y= .int j∧Q (g i j) H
section
variable{X:Cx}{a b c:Expr}{ta tb tc:TE}{pos:Pos}
theorem EH(ha:PE X a ta)(hb:PE X b tb){pins:List (Addr×Obj)}{s:Shared}{σ:St}{H:Hp}{R:V→V→Hp→Prop}(I:Inv X pins σ H s)
 (h:ta σ H fun x H1=>tb σ H1 fun y H2=>R x y H2){Q:Value→Shared→Prop}{f:Value→Value→Sem Value}
 (hf:∀v u s2 x y H2,Inv X pins σ H2 s2→RelV x v→RelV y u→R x y H2→wpAny (model X.prog X.w) X.A (f v u) Q X.xe s2):
 wpAny (model X.prog X.w) X.A (eval a X.env) (fun v s₁=>wpAny (model X.prog X.w) X.A (eval b X.env) (fun u s₂=>wpAny (model X.prog X.w) X.A (f v u) Q X.xe s₂) X.xe s₁) X.xe s:=by
 refine cg (ha pins s σ H _ I h) fun v s1 ⟨x,H1,I1,r1,q1⟩=>?_
 refine cg (hb pins s1 σ H1 _ I1 q1) fun u s2 ⟨y,H2,I2,r2,q2⟩=>?_
 exact hf v u s2 x y H2 I2 r1 r2 q2
theorem IB{op:Operator}{r:R2}(ho:OpR X (binaryOp op) r)(ha:PE X a ta)(hb:PE X b tb):PE X (.BinOp a op b pos) (Jb r ta tb):=by
 intro pins s σ H Q I h
 exact wpAny_BinOp (EH ha hb I h fun v u s2 x y H2 I2 rx ry q=>ho pins s2 σ H2 x y v u Q I2 rx ry q)
theorem KP{f:Value→Value→Sem Value}{C:Int→Int→Prop}{g:Int→Int→Int}
 (rule:∀(i j:Int) (t u:Tok) (s:Shared) (Q:Value→Shared→Prop) (E:Value→Shared→Prop),C i j→Q (.int (g i j) s.toks) {s with toks:=s.toks+1}→wpAny (model X.prog X.w) X.A (f (.int i t) (.int j u)) Q E s):
 OpR X f (rI C fun i j=> .int (g i j)):=by
 intro pins s σ H x y v u Q I rx ry h
 obtain⟨i,j,rfl,rfl,hc,q⟩:=h
 obtain⟨t,rfl⟩:=rx
 obtain⟨t',rfl⟩:=ry
 exact rule i j t t' s _ _ hc ⟨.int (g i j),H,I.tok _,⟨_,rfl⟩,q⟩
theorem Io{f:Value→Value→Sem Value}{g:Int→Int→Int}
 (rule:∀(i j:Int) (t u:Tok) (s:Shared) (Q:Value→Shared→Prop) (E:Value→Shared→Prop),Q (.int (g i j) s.toks) {s with toks:=s.toks+1}→wpAny (model X.prog X.w) X.A (f (.int i t) (.int j u)) Q E s):
 OpR X f (x_ fun i j=> .int (g i j)):=by
 intro pins s σ H x y v u Q I rx ry h
 obtain⟨i,j,rfl,rfl,q⟩:=h
 obtain⟨t,rfl⟩:=rx
 obtain⟨t',rfl⟩:=ry
 exact rule i j t t' s _ _ ⟨.int (g i j),H,I.tok _,⟨_,rfl⟩,q⟩
theorem FL{f:Value→Value→Sem Value}{g:Int→Int→Bool}
 (rule:∀(i j:Int) (t u:Tok) (s:Shared) (Q:Value→Shared→Prop) (E:Value→Shared→Prop),Q (.bool (g i j)) s→wpAny (model X.prog X.w) X.A (f (.int i t) (.int j u)) Q E s):
 OpR X f (x_ fun i j=> .bl (g i j)):=by
 intro pins s σ H x y v u Q I rx ry h
 obtain⟨i,j,rfl,rfl,q⟩:=h
 obtain⟨t,rfl⟩:=rx
 obtain⟨t',rfl⟩:=ry
 exact rule i j t t' s _ _ ⟨.bl (g i j),H,I,rfl,q⟩
def G2(i j:Int):Prop:=0<j∧j<1073741824
def CMul(i j:Int):Prop:=(-(2 ^ 64)<i∧i<2 ^ 64)∨(-(2 ^ 64)<j∧j<2 ^ 64)
theorem CMul.ok{i j:Int}(h:CMul i j):IntMulOk i j:=by
 rcases h with⟨h1,h2⟩ | ⟨h1,h2⟩
 ·exact .of_left (intBits_le_64 h1 h2)
 ·exact .of_right (intBits_le_64 h1 h2)
theorem FN:OpR X (binaryOp .Add) (x_ fun i j=> .int (i+j)):=Io fun _ _ _ _ _ _ _ q=>add_int q
theorem FT:OpR X (binaryOp .Sub) (x_ fun i j=> .int (i - j)):=Io fun _ _ _ _ _ _ _ q=>sub_int q
theorem FQ:OpR X (binaryOp .Mult) (rI CMul fun i j=> .int (i*j)):=KP fun _ _ _ _ _ _ _ hc q=>mul_int q hc.ok
theorem Df:OpR X (binaryOp .FloorDiv) (rI G2 fun i j=> .int (i / j)):=KP fun i j _ _ _ _ _ hc q=>by
 have h1:(0:Int)<j:=hc.1
 have h2:j<1073741824:=hc.2
 exact floordiv_int (by omega) (by rw[Int.fdiv_eq_ediv_of_nonneg i (by omega)];exact q) (.inl (PyProof.noPylong_small (by omega)))
theorem FP:OpR X (binaryOp .Mod) (rI (fun _ j=>0<j) fun i j=> .int (i % j)):=KP fun i j _ _ _ _ _ hc q=>by
 have h1:(0:Int)<j:=hc
 exact mod_int' (by omega) (by rw[Int.fmod_eq_emod_of_nonneg i (by omega)];exact q)
end
section
variable{X:Cx}{a b c:Expr}{ta tb tc:TE}{pos:Pos}
theorem EV{pins:List (Addr×Obj)}{σ:St}{H:Hp}{s:Shared}{Q:VK}{k k':Bool}(I:Inv X pins σ H s)(q:Q (.bl k) H)(e:k=k'):EP X pins σ Q (.bool k') s:=by
 subst e
 exact⟨.bl k,H,I,rfl,q⟩
theorem xH:OpR X (compareOp .Lt) (x_ fun i j=> .bl (decide (i<j))):=FL fun _ _ _ _ _ _ _ q=>lt_int q
theorem qt:OpR X (compareOp .LtE) (x_ fun i j=> .bl (decide (i≤j))):=FL fun _ _ _ _ _ _ _ q=>le_int q
theorem Ey:OpR X (compareOp .Gt) (x_ fun i j=> .bl (decide (j<i))):=FL fun _ _ _ _ _ _ _ q=>gt_int q
theorem y9:OpR X (compareOp .In) (fun x y H Q=>∃i j,x= .str i∧y= .str j∧Q (.bl (!(Builtin.Str.occurrences j i 0 j.length 1).isEmpty)) H):=by
 intro pins s σ H x y v u Q I rx ry h
 obtain⟨i,j,rfl,rfl,q⟩:=h
 obtain⟨t,rfl⟩:=rx
 obtain⟨t',rfl⟩:=ry
 exact in_str (EV I q rfl)
theorem OpR.or{f:Value→Value→Sem Value}{r r':R2}(h:OpR X f r)(h':OpR X f r'):OpR X f (fun x y H Q=>r x y H Q∨r' x y H Q):=by
 intro pins s σ H x y v u Q I rx ry q
 rcases q with q | q
 ·exact h pins s σ H x y v u Q I rx ry q
 ·exact h' pins s σ H x y v u Q I rx ry q
theorem AW(b:Expr){op:CmpOp}(h:op≠ .In:=by decide)(h2:op≠ .NotIn:=by decide):behindInMarks op b=false:=by
 have e1:(op==CmpOp.In)=false:=by cases op<;>first | rfl | exact absurd rfl h
 have e2:(op==CmpOp.NotIn)=false:=by cases op<;>first | rfl | exact absurd rfl h2
 cases b<;>simp[behindInMarks,e1,e2]
theorem Dv{op:CmpOp}{r:R2}(ho:OpR X (compareOp op) r)(ha:PE X a ta)(hb:PE X b tb)(hm:behindInMarks op b=false):PE X (.Compare a [op] [b] pos) (Jb r ta tb):=by
 intro pins s σ H Q I h
 exact wpAny_Compare1 (EH ha hb I h fun v u s2 x y H2 I2 rx ry q=>ho pins s2 σ H2 x y v u Q I2 rx ry q) hm
def ED(t:TE):TT:=fun σ H Q=>t σ H fun x H'=>∃k,x= .bl k∧Q k H'
theorem DH{op:CmpOp}{r:R2}(ho:OpR X (compareOp op) r)(ha:PE X a ta)(hb:PE X b tb)(hm:behindInMarks op b=false):PT X (.Compare a [op] [b] pos) (ED (Jb r ta tb)):=by
 intro pins s σ H Q I h
 refine wpAny_isTrue_Compare1 (cg (ha pins s σ H _ I h) fun v s1 ⟨x,H1,I1,r1,q1⟩=>cg (hb pins s1 σ H1 _ I1 q1) fun u s2 ⟨y,H2,I2,r2,q2⟩=>
  cg (ho pins s2 σ H2 x y v u _ I2 r1 r2 q2) fun c s3 ⟨z,H3,I3,r3,k,e,q3⟩=>?_) hm
 subst e
 cases r3
 exact wpAny_truthy_bool ⟨H3,I3,q3⟩
def wG(r r':R2)(ta tb tc:TE):TE:=fun σ H Q=>ta σ H fun x H1=>tb σ H1 fun y H2=>r x y H2 fun z H3=>∃k,z= .bl k∧
 (if k=true then tc σ H3 fun w' H4=>r' y w' H4 Q else Q (.bl false) H3)
theorem Bj{op wg:CmpOp}{r r':R2}(ho:OpR X (compareOp op) r)(qd:OpR X (compareOp wg) r')(ha:PE X a ta)(hb:PE X b tb)(hc:PE X c tc)
 (hm:lastMarks [op,wg] [b,c]=false:=by with_unfolding_all rfl):PE X (.Compare a [op,wg] [b,c] pos) (wG r r' ta tb tc):=by
 intro pins s σ H Q I h
 refine Compare_chain (cg (ha pins s σ H _ I h) fun v s1 ⟨x,H1,I1,r1,q1⟩=>chain_link (cg (hb pins s1 σ H1 _ I1 q1) fun u s2 ⟨y,H2,I2,r2,q2⟩=>
  cg (ho pins s2 σ H2 x y v u _ I2 r1 r2 q2) fun d s3 ⟨z,H3,I3,r3,k,e,q3⟩=>?_)) hm
 subst e
 cases r3
 refine wpAny_truthy_bool ?_
 cases k with
 |false=>exact ite_ff ⟨.bl false,H3,I3,rfl,q3⟩
 |true=>exact ite_tt (chain_last (cg (hc pins s3 σ H3 _ I3 q3) fun w' s4 ⟨z',H4,I4,r4,q4⟩=>qd pins s4 σ H4 y z' u w' Q I4 r2 r4 q4))
theorem Bt{op wg:CmpOp}{r r':R2}(ho:OpR X (compareOp op) r)(qd:OpR X (compareOp wg) r')(ha:PE X a ta)(hb:PE X b tb)(hc:PE X c tc)
 (hm:lastMarks [op,wg] [b,c]=false:=by with_unfolding_all rfl):PT X (.Compare a [op,wg] [b,c] pos) (ED (wG r r' ta tb tc)):=by
 intro pins s σ H Q I h
 refine isTrue_chain (cg (ha pins s σ H _ I h) fun v s1 ⟨x,H1,I1,r1,q1⟩=>test_link (cg (hb pins s1 σ H1 _ I1 q1) fun u s2 ⟨y,H2,I2,r2,q2⟩=>
  cg (ho pins s2 σ H2 x y v u _ I2 r1 r2 q2) fun d s3 ⟨z,H3,I3,r3,k,e,q3⟩=>?_)) hm
 subst e
 cases r3
 refine wpAny_truthy_bool ?_
 cases k with
 |false=>
  obtain⟨k',e',q'⟩:=q3
  cases e'
  exact ite_ff ⟨H3,I3,q'⟩
 |true=>
  refine ite_tt (test_last (cg (hc pins s3 σ H3 _ I3 q3) fun w' s4 ⟨z',H4,I4,r4,q4⟩=>cg (qd pins s4 σ H4 y z' u w' _ I4 r2 r4 q4) fun d' s5 ⟨z2,H5,I5,r5,k2,e2,q5⟩=>?_))
  subst e2
  cases r5
  exact wpAny_truthy_bool ⟨H5,I5,q5⟩
def G9(K:W.Frag)(x:V)(H:Hp)(k:Bool):Prop:=
 match x with
 | .non=>k=false
 | .bl b=>k=b
 | .int i=>k=(i !=0)
 | .str y=>y.length≤sizeLine∧k=((y.length:Int) !=0)
 | .byt y=>y.size≤sizeLine∧k=((y.size:Int) !=0)
 | .ref p=>(∃xs,SqL K H p xs∧k=!xs.isEmpty)∨(∃xs,SqT K H p xs∧k=!xs.isEmpty)∨∃au,H p=some (.dK au)∧k=!au.isEmpty
 |_=>False
theorem vU{κ:Type}{au:List (κ×V)}{vs:List (κ×Value)}(r:KV au vs):(!vs.isEmpty)=!au.isEmpty:=by
 cases r<;>rfl
theorem nT{xs:List V}{aF:List Value}(r:Vals xs aF):(!aF.toArray.isEmpty)=!xs.isEmpty:=by
 cases r<;>simp
theorem kZ:(sizeLine:Nat)<2 ^ 63:=by rw[sizeLine_eq];decide
theorem GN:JL X (fun x H Q=>∃k,G9 X.K x H k∧Q k H):=by
 intro pins s σ H x v Q I rx h
 obtain⟨k,e,q⟩:=h
 have hl:=kZ
 have hs:sizeLine=16777216:=sizeLine_eq
 cases x with
 |non=>
  cases rx
  have e':k=false:=e
  subst e'
  exact truthy_none ⟨H,I,q⟩
 |bl b=>
  cases rx
  have e':k=b:=e
  subst e'
  exact wpAny_truthy_bool ⟨H,I,q⟩
 |int i=>
  obtain⟨t,rfl⟩:=rx
  have e':k=(i !=0):=e
  subst e'
  exact PySem.P.truthy_int ⟨H,I,q⟩
 |str y=>
  obtain⟨t,rfl⟩:=rx
  obtain⟨hy,e'⟩:y.length≤sizeLine∧k=((y.length:Int) !=0):=e
  subst e'
  exact PySem.P.truthy_str (by omega) ⟨H,I.tok _,q⟩
 |byt y=>
  obtain⟨t,rfl⟩:=rx
  obtain⟨hy,e'⟩:y.size≤sizeLine∧k=((y.size:Int) !=0):=e
  subst e'
  exact PySem.W.truthy_bytes (by omega) ⟨H,I.tok _,q⟩
 |ref p=>
  cases rx
  have e':(∃xs,SqL X.K H p xs∧k=!xs.isEmpty)∨(∃xs,SqT X.K H p xs∧k=!xs.isEmpty)∨∃au,H p=some (.dK au)∧k=!au.isEmpty:=e
  rcases e' with⟨xs,hx,e'⟩ | ⟨xs,hx,e'⟩ | ⟨au,hx,e'⟩
  ·subst e'
   obtain⟨aF,r,pl,hz⟩:=I.list hx
   have hlen:=r.length
   exact wpAny_truthy_list pl.isList (by simp only[List.size_toArray];omega) ⟨H,I.tok _,by rw[nT r];exact q⟩
  ·subst e'
   obtain⟨aF,r,pl,hz⟩:=I.tuple hx
   have hlen:=r.length
   exact truthy_tuple pl (by simp only[List.size_toArray];omega) ⟨H,I.tok _,by rw[nT r];exact q⟩
  ·subst e'
   obtain⟨hz,hS,vs,r,m⟩:au.length≤sizeLine∧(p==sysModules)=false∧∃vs,KV au vs∧s.heap.DictOf (bf X.prog X.w) p vs:=I.hok p _ hx
   have hlen:au.length=vs.length:=Paired.length r
   exact wpAny_truthy_dict hS m (by omega) ⟨H,I.tok _,by rw[vU r];exact q⟩
 |_=>exact(show False from e).elim
theorem Bw(ha:PE X a ta)(he:∀whole,isTrue a X.env whole=(do let v←whole;standAt a.pos;holding [v] (truthy v))):
 PT X a (fun σ H Q=>ta σ H fun x H'=>∃k,G9 X.K x H' k∧Q k H'):=by
 intro pins s σ H Q I h
 exact isTrue_plain (cg (ha pins s σ H _ I h) fun v s1 ⟨x,H1,I1,r1,q1⟩=>GN pins s1 σ H1 x v Q I1 r1 q1) (he _)
theorem vals1{x:V}{us:List Value}(r:Vals [x] us):∃u,us=[u]∧RelV x u:=by
 cases r with
 |cons r1 r2=>cases r2;exact⟨_,rfl,r1⟩
theorem vals2{x y:V}{us:List Value}(r:Vals [x,y] us):∃u w',us=[u,w']∧RelV x u∧RelV y w':=by
 cases r with
 |cons r1 r2=>
  cases r2 with
  |cons r3 r4=>cases r4;exact⟨_,_,rfl,r1,r3⟩
theorem zT:CallR X (.builtin "abs") (fun xs H Q=>∃i,xs=[.int i]∧Q (.int (if i<0 then -i else i)) H):=by
 intro pins s σ H xs us Q I r h
 obtain⟨i,rfl,q⟩:=h
 obtain⟨u,rfl,t,rfl⟩:=vals1 r
 exact call_abs_int fun u tk=>⟨.int (if i<0 then -i else i),H,I.tok _,⟨_,rfl⟩,q⟩
theorem yu(hc:X.calm=true):CallR X (.builtin "max") (fun xs H Q=>∃i j,xs=[.int i, .int j]∧Q (.int (if j>i then j else i)) H):=by
 intro pins s σ H xs us Q I r h
 obtain⟨i,j,rfl,q⟩:=h
 obtain⟨u,w',rfl,⟨t,rfl⟩,⟨t',rfl⟩⟩:=vals2 r
 refine max_two_ints (I.ok.hd hc) fun h' tk k=>⟨_,H,I.kept k,?_,q⟩
 by_cases hj:j>i
 ·rw[if_pos hj,if_pos hj];exact⟨_,rfl⟩
 ·rw[if_neg hj,if_neg hj];exact⟨_,rfl⟩
theorem yw(hc:X.calm=true):CallR X (.builtin "min") (fun xs H Q=>∃i j,xs=[.int i, .int j]∧Q (.int (if j<i then j else i)) H):=by
 intro pins s σ H xs us Q I r h
 obtain⟨i,j,rfl,q⟩:=h
 obtain⟨u,w',rfl,⟨t,rfl⟩,⟨t',rfl⟩⟩:=vals2 r
 refine min_two_ints (I.ok.hd hc) fun h' tk k=>⟨_,H,I.kept k,?_,q⟩
 by_cases hj:j<i
 ·rw[if_pos hj,if_pos hj];exact⟨_,rfl⟩
 ·rw[if_neg hj,if_neg hj];exact⟨_,rfl⟩
end
structure ObjM (h:Heap) (x dx C:Addr) (mA:Str→Option Value):Prop where
 obj:h.get? x=some (PySem.W.instObj C dx)
 ns:h.Ns1 dx mA
 ne:dx≠x
theorem yX{h:Heap}{dx:Addr}{mA:Str→Option Value}(n:h.Ns1 dx mA):∃od,h.get? dx=some od∧∀name,PySem.W.lookIn name od=some (mA name):=by
 obtain⟨o,es,ep,ho,hd,hk,_,hm⟩:=n
 refine⟨o,ho,fun name=>?_⟩
 have e:=hm name
 unfold nsFind findBy at e
 rw[←Array.find?_toList] at e
 unfold PySem.W.lookIn
 rw[hd]
 dsimp only
 split
 ·rename_i y q
  rw[q] at e
  exact congrArg some e
 ·rename_i q
  rw[q] at e
  have a:es.toList.any (·.refKey)=false:=by
   rw[List.any_eq_false]
   intro y hy
   obtain⟨z,t,yH⟩:=hk y (Array.mem_toList_iff.mp hy)
   simp[DictEntry.refKey,yH]
  have a':¬es.toList.any (·.refKey)=true:=by rw[a];exact Bool.false_ne_true
  rw[if_neg a']
  exact congrArg some e
theorem ObjM.look{h:Heap}{x dx C:Addr}{mA:Str→Option Value}(I:ObjM h x dx C mA):∃od,PySem.W.InstAt h x (PySem.W.instObj C dx) C (some od)∧∀name,PySem.W.lookIn name od=some (mA name):=
 let ⟨od,ho,hl⟩:=yX I.ns
 ⟨od,⟨I.obj,rfl,rfl,ho⟩,hl⟩
section
variable{prog:Program}{w:World}{A:Around}{E:Value→Shared→Prop}{s:Shared}{K:W.Frag}{x dx C f:Addr}{mA:Str→Option Value}{name:Str}{v:Value}
end
theorem RelO.some_of{v:V}{o:Option Value}(r:RelO (some v) o):∃u,o=some u∧RelV v u:=by
 cases o with
 |none=>exact(show False from r).elim
 |some u=>exact⟨u,rfl,r⟩
section
variable{P:Program}{w:World}{H H':Hp}{h h':Heap}{a C dx:Addr}{fs JQ:List (Str×V)}
theorem CT(hok:HOk P w H h)(e:H a=some (.ins C dx fs)):∃mA,ObjM h a dx C mA∧(∀f,RelO (fs.lookup f) (mA f))∧PySem.Within mA (fs.map (·.1))∧fs.length≤1000∧H dx=some (.own a):=by
 obtain⟨d,z,ne,ob,mA,n,r,q⟩:=(show ObjOk P w H h a (.ins C dx fs) from hok a _ e)
 exact⟨mA,⟨ob,n,ne⟩,r,q,z,d⟩
end
structure Cls (K:W.Frag) (C:Addr):Prop where
 pg:PySem.W.plainGet K C Str.empty=true
 hd:PySem.W.hasDictIn K C=true
 po:PySem.W.plainOver K C=true
 sa:PySem.W.findIn K (.ref C) "__setattr__"=some (some (.builtin "object.__setattr__"))
theorem Cls.get{K:W.Frag}{C:Addr}(c:Cls K C)(f:Str):PySem.W.plainGet K C f=true:=c.pg
structure Con (K:W.Frag) (C:Addr) (f:Str) (v:V) (u:Value):Prop where
 at_:PySem.W.findIn K (.ref C) f=some (some u)
 rel:RelV v u
 get:PySem.W.specialIn K u "__get__"=some none
 cp:PySem.W.copiedNames.contains f=false
structure Meth (K:W.Frag) (C:Addr) (m:Str) (f:Addr):Prop where
 at_:PySem.W.findIn K (.ref C) m=some (some (.ref f))
 fn:PySem.W.isFn K (.ref f)=true
 kp:PySem.W.keepIn K (.ref f)=true
section
variable{X:Cx}{pins:List (Addr×Obj)}{σ:St}{H:Hp}{s:Shared}{a C dx:Addr}{fs:List (Str×V)}{f:Str}{v:V}{A:Around}{E:Value→Shared→Prop}
end
section
variable{X:Cx}{o e value:Expr}{f:Str}{pos pos' Lf:Pos}{ta tv:TE}
end
section
variable{X:Cx}{pins:List (Addr×Obj)}{σ:St}{H:Hp}{s:Shared}{A:Around}{E:Value→Shared→Prop}{Q:Value→Shared→Prop}{c:Value}{b:Bool}
inductive TyOf (K:W.Frag) (H:Hp):V→Value→Prop where
 |non:TyOf K H .non (.type "NoneType")
 |bl (x:Bool):TyOf K H (.bl x) (.type "bool")
 |int (i:Int):TyOf K H (.int i) (.type "int")
 |str (x:Str):TyOf K H (.str x) (.type "str")
 |flt (x:UInt64):TyOf K H (.flt x) (.type "float")
 |lst {a:Addr}{xs:List V}(e:H a=some (.lst xs)):TyOf K H (.ref a) (.type "list")
 |frz {a:Addr}{o:Obj}{xs:List V}(e:H a=some (.frz o (.lst xs))):TyOf K H (.ref a) (.type "list")
 |tup {a:Addr}{xs:List V}(e:H a=some (.tup xs)):TyOf K H (.ref a) (.type "tuple")
 |dK {a:Addr}{au:List (Key×V)}(e:H a=some (.dK au)):TyOf K H (.ref a) (.type "dict")
 |dT {a:Addr}{au:List (List Key×V)}(e:H a=some (.dT au)):TyOf K H (.ref a) (.type "dict")
 |ins {a C dx:Addr}{fs:List (Str×V)}(e:H a=some (.ins C dx fs)) (cl:Cls K C) (ha:PySem.W.findIn K (.ref C) "__class__"=some (some (.builtin "object.__class__")))
   (hn:PySem.W.specialIn K (.builtin "object.__class__") "__get__"=some (some (.builtin "getset_descriptor.__get__"))) (L0:PySem.W.takesIn K (.builtin "object.__class__")=some true)
   (hm:PySem.W.mroIn K C (.type "object")=some true):TyOf K H (.ref a) (.ref C)
theorem yO{x:V}{u t:Value}(I:Inv X pins σ H s)(rx:RelV x u)(ty:TyOf X.K H x t)(e:PySem.W.kitOne X.K t c=some b)(h:∀tk,Q (.bool b) {s with toks:=tk}):
 wpAny (model X.prog X.w) A (call (.builtin "isinstance") [u,c]) Q E s:=by
 cases ty with
 |non=>cases (show u=Value.none from rx);exact PySem.W.kia_one PySem.W.kitx_none I.kIn True.intro e (fun z=>nomatch z) h
 |bl y=>cases (show u=Value.bool y from rx);exact PySem.W.kia_one PySem.W.kitx_bool I.kIn True.intro e (fun z=>nomatch z) h
 |int i=>obtain⟨t,q⟩:=(show∃t,u=Value.int i t from rx);cases q;exact PySem.W.kia_one PySem.W.kitx_int I.kIn True.intro e (fun z=>nomatch z) h
 |str y=>obtain⟨t,q⟩:=(show∃t,u=Value.str y t from rx);cases q;exact PySem.W.kia_one PySem.W.kitx_str I.kIn True.intro e (fun z=>nomatch z) h
 |flt y=>obtain⟨t,q⟩:=(show∃t,u=Value.float y t from rx);cases q;exact PySem.W.kia_one PySem.W.kitx_float I.kIn True.intro e (fun z=>nomatch z) h
 | @lst a xs ea=>
   cases (show u=Value.ref a from rx)
   obtain⟨_,_,n,_,h1⟩:=(show ObjOk X.prog X.w H s.heap a (.lst xs) from I.hok a _ ea)
   exact PySem.W.kia_one PySem.W.kitx_list I.kIn ⟨_,h1,rfl⟩ e (fun z=>nomatch z) h
 | @frz a ob xs ea=>
   cases (show u=Value.ref a from rx)
   obtain⟨_,_,_,n,_,h1⟩:=(show ObjOk X.prog X.w H s.heap a (.frz ob (.lst xs)) from I.hok a _ ea)
   exact PySem.W.kia_one PySem.W.kitx_list I.kIn ⟨_,h1,rfl⟩ e (fun z=>nomatch z) h
 | @tup a xs ea=>
   cases (show u=Value.ref a from rx)
   obtain⟨_,_,_,p⟩:=(show ObjOk X.prog X.w H s.heap a (.tup xs) from I.hok a _ ea)
   obtain⟨o,h1,h2,_⟩:=p
   exact PySem.W.kia_one PySem.W.kitx_tuple I.kIn ⟨o,h1,h2⟩ e (fun z=>nomatch z) h
 | @dK a au ea=>
   cases (show u=Value.ref a from rx)
   obtain⟨_,_,vs,_,p⟩:=(show ObjOk X.prog X.w H s.heap a (.dK au) from I.hok a _ ea)
   obtain⟨o,es,ep,h1,h2,_⟩:=p
   exact PySem.W.kia_one PySem.W.kitx_dict I.kIn ⟨o,h1,h2.1⟩ e (fun z=>nomatch z) h
 | @dT a au ea=>
   cases (show u=Value.ref a from rx)
   obtain⟨_,_,xs,_,o,es,ep,h1,h2,_⟩:=(show ObjOk X.prog X.w H s.heap a (.dT au) from I.hok a _ ea)
   exact PySem.W.kia_one PySem.W.kitx_dict I.kIn ⟨o,h1,h2.1⟩ e (fun z=>nomatch z) h
 | @ins a C dx fs ea cl ha hn L0 hm=>
   cases (show u=Value.ref a from rx)
   obtain⟨mA,O,_⟩:=CT I.hok ea
   obtain⟨od,J,_⟩:=O.look
   exact PySem.W.kia_one (PySem.W.kitx_own (cl.get _) cl.hd ha hn L0 hm) I.kIn J e (fun z=>nomatch z) h
end
structure Room (k:Nat) (A:Around):Prop where
 hd:A.handled=none
 dp:A.depth+3*k+5<recursionLimit
 un:A.units+16*k+200<cLine
theorem Room.mono{j k:Nat}{A:Around}(r:Room k A)(h:j≤k):Room j A:=⟨r.hd,by have:=r.dp;omega,by have:=r.un;omega⟩
theorem Room.deeper{k:Nat}{A:Around}(r:Room (k+1) A)(env:Env):Room k (A.deeper env):=
 ⟨r.hd,by have:=r.dp;show A.depth+1+3*k+5<_;omega,by have:=r.un;show A.units+3+16*k+200<_;omega⟩
theorem Room.depth{k:Nat}{A:Around}(r:Room k A):A.depth<recursionLimit:=by have:=r.dp;omega
theorem Room.units{k:Nat}{A:Around}(r:Room k A):A.units+64<cLine:=by have:=r.un;omega
def GK:TA:=fun _ H Q=>Q [] H
def BW(ta:TE)(tr:TA):TA:=fun σ H Q=>ta σ H fun x H1=>tr σ H1 fun xs H2=>Q (x::xs) H2
section
variable{X:Cx}{e:Expr}{es:List Expr}{te:TE}{t:TA}{pos:Pos}
theorem r0:PA X [] GK:=fun _ _ _ _ H Q I h=>Calls.spliced_nil ⟨[],H,I, .nil,h⟩
theorem rZ(ha:PE X e te)(hr:PA X es t)(hs:starEach (e::es) X.env=(false,eval e X.env)::starEach es X.env:=by rfl):PA X (e::es) (BW te t):=by
 intro pos pins s σ H Q I h
 rw[hs]
 show wpAny _ _ (spliced ((false,eval e X.env)::backTo pos (starEach es X.env))) _ _ s
 refine Calls.spliced_cons (cg (ha pins s σ H _ I h) fun u s1 ⟨x,H1,I1,r1,q1⟩=>?_)
 exact cg (hr pos pins s1 σ H1 _ I1 q1) fun us s2 ⟨xs,H2,I2,r2,q2⟩=>⟨x::xs,H2,I2, .cons r1 r2,q2⟩
def Le(t:TA):TE:=fun σ H Q=>t σ H fun xs H1=>xs.length≤sizeLine∧∀p,H1 p=none→Q (.ref p) (upd H1 p (.tup xs))
def K_(t:TA):TE:=fun σ H Q=>t σ H fun xs H1=>xs.length≤sizeLine∧∀p,H1 p=none→Q (.ref p) (upd H1 p (.lst xs))
theorem Gh{x1}(h:PA X es t):PE X (.Tuple es x1 pos) (Le t):=by
 intro pins s σ H Q I hq
 refine wpAny_Tuple_spliced (cg (h pos pins s σ H _ I hq) fun us s1 ⟨xs,H1,I1,r,z,q⟩=>⟨by rw[←r.length];exact z,?_⟩)
 have hf:H1 s1.heap.objs.size=none:=I1.hok.fresh (Nat.le_refl _)
 refine⟨.ref s1.heap.objs.size,upd H1 s1.heap.objs.size (.tup xs),I1.laid (t':=s1.toks) (fun b u e=>Heap.get?_push_of_some _ e) (Nat.le_refl _) ?_,rfl,q _ hf⟩
 exact⟨z,us,r,⟨_,Heap.get?_push_size _ rfl,rfl,_,rfl⟩⟩
theorem Bo(h:PA X es t):PE X (.List es pos) (K_ t):=by
 intro pins s σ H Q I hq
 refine wpAny_List_spliced (cg (h pos pins s σ H _ I hq) fun us s1 ⟨xs,H1,I1,r,z,q⟩=>⟨by rw[←r.length];exact z,?_⟩)
 have hf:H1 s1.heap.objs.size=none:=I1.hok.fresh (Nat.le_refl _)
 refine⟨.ref s1.heap.objs.size,upd H1 s1.heap.objs.size (.lst xs),I1.laid (t':=s1.toks) (fun b u e=>Heap.get?_push_of_some _ e) (Nat.le_refl _) ?_,rfl,q _ hf⟩
 exact⟨z,us,0,r,Heap.get?_push_size _ rfl⟩
end
abbrev Sp:=List V→Hp→VK→XK→Prop
abbrev vv:=List Env→Hp→Shared→XK→Value→Shared→Prop
structure Env0 (P:Program) (w:World) (K:W.Frag) (mg:Str→Option Value) (base:Heap) (A:Around) (outer:List Env) (s:Shared) (H:Hp):Prop where
 frames:A.frames=some outer
 mod:Mod K mg base
 bs:∀b o,base.get? b=some o→s.heap.get? b=some o∧H b=none
 bsz:base.objs.size≤s.heap.objs.size
 funs:s.heap.FunFrames base outer
 frf:∀b∈mG outer,H b=none
 hok:HOk P w H s.heap
 bare:AllBare s.gens
def CE(outer:List Env)(P:Program)(w:World)(H:Hp)(s:Shared)(Q:VK)(u:Value)(s':Shared):Prop:=
 ∃v H',s'.os=s.os∧AllBare s'.gens∧Un (mG outer) [] H H' s.heap s'.heap∧HOk P w H' s'.heap∧RelV v u∧Q v H'
def CR(CX:vv)(outer:List Env)(P:Program)(w:World)(H:Hp)(s:Shared)(Q:VK)(E:XK)(r:Result)(s':Shared):Prop:=
 match r with
 | .ok (.ret u)=>CE outer P w H s Q u s'
 | .ok _=>False
 | .error e=>CX outer H s E e s'
structure FnOk (P:Program) (w:World) (K:W.Frag) (mg:Str→Option Value) (base:Heap) (CX:vv) (k:Nat) (f:Addr) (fd:FuncData) (ps:List Str) (sp:Sp):Prop where
 len:∀vs H Q E,sp vs H Q E→vs.length=ps.length
 run:∀(A:Around) (outer:List Env) (s:Shared) (H:Hp) (args:Args) (us:List Value) (vs:List V) (Q:VK) (E:XK),Room k A→Env0 P w K mg base A outer s H→BindsTo s fd args (ps.zip us)→Vals vs us→sp vs H Q E→
  codeAny (model P w) A (.call (.ref f) args) (CR CX outer P w H s Q E) s
theorem FnOk.mono{P:Program}{w:World}{K:W.Frag}{mg:Str→Option Value}{base:Heap}{CX:vv}{j k:Nat}{f:Addr}{fd:FuncData}{ps:List Str}{sp:Sp}(F:FnOk P w K mg base CX j f fd ps sp)(h:j≤k):
 FnOk P w K mg base CX k f fd ps sp:=⟨F.len,fun A outer s H args us vs Q E hr=>F.run A outer s H args us vs Q E (hr.mono h)⟩
section
variable{X:Cx}{pins:List (Addr×Obj)}{σ:St}{H:Hp}{s s':Shared}
theorem Inv.env0(I:Inv X pins σ H s):Env0 X.prog X.w X.K X.mg X.base X.A X.stack s H:=
 ⟨I.ok.frames,I.ok.mod,I.bs,Nat.le_trans I.ok.bsz I.sz,I.stack,I.stkFree,I.hok,I.bare⟩
theorem Inv.after{Q:VK}{u:Value}(I:Inv X pins σ H s)(h:CE X.stack X.prog X.w H s Q u s'):EP X pins σ Q u s':=by
 obtain⟨v,H',os,bare,un,hok,r,q⟩:=h
 obtain⟨hh,g,d,t,KR⟩:=s'
 obtain rfl:KR=s.os:=os
 exact⟨v,H',I.call (h':=hh) (g':=g) (d':=d) (t':=t) (ch:=[]) un hok bare (fun b z=>absurd z (by simp)),r,q⟩
end
def I8(sp:Sp)(Ef:List V)(E:XK)(t:TA):TE:=fun σ H Q=>t σ H fun vs H1=>sp (vs++Ef) H1 Q E
def Binds(K:W.Frag)(fd:FuncData)(ps:List Str)(ds:List Value):Prop:=
 ∀(s:Shared) (us:List Value),K.In s.heap→(us++ds).length=ps.length→BindsTo s fd ⟨us,[]⟩ (ps.zip (us++ds))
theorem Binds.all{K:W.Frag}{fd:FuncData}{ps:List Str}(h:∀us:List Value,us.length=ps.length→bindArgs fd ⟨us,[]⟩=pure (ps.zip us)):Binds K fd ps []:=fun s us _ hl=>by
 rw[List.append_nil] at hl⊢
 exact .of_eq (h us hl)
def Passes(CX:vv)(X:Cx)(E:XK):Prop:=∀(pins:List (Addr×Obj)) (σ:St) (H:Hp) (s:Shared) (e:Value) (s':Shared),Inv X pins σ H s→CX X.stack H s E e s'→X.xe e s'
section
variable{X:Cx}{CX:vv}{k:Nat}{f C:Addr}{fd:FuncData}{ps:List Str}{sp:Sp}{Ef:List V}{ds:List Value}{E:XK}{x m:Str}{p pos apos:Pos}{e o:Expr}{es:List Expr}{ta:TE}{t:TA}
theorem Gz{pins:List (Addr×Obj)}{σ:St}{H:Hp}{s:Shared}{Q:VK}{us:List Value}{vs:List V}(F:FnOk X.prog X.w X.K X.mg X.base CX k f fd ps sp)(hr:Room k X.A)(hb:Binds X.K fd ps ds)(hd:Vals Ef ds)(hx:Passes CX X E)
 (I:Inv X pins σ H s)(r:Vals vs us)(h:sp (vs++Ef) H Q E):wpAny (model X.prog X.w) X.A (call (.ref f) us) (EP X pins σ Q) X.xe s:=by
 have r2:Vals (vs++Ef) (us++ds):=r.append hd
 have hl:(us++ds).length=ps.length:=by rw[←r2.length];exact F.len _ _ _ _ h
 refine wpAny_call (codeAny_mono (F.run X.A X.stack s H ⟨us,[]⟩ (us++ds) (vs++Ef) Q E hr I.env0 (hb s us I.kIn hl) r2 h) fun r s' hq=>?_)
 cases r with
 |error e=>exact hx pins σ H s e s' I hq
 |ok fl=>
  cases fl with
  |ret u=>exact I.after hq
  |next=>exact False.elim hq
  |brk=>exact False.elim hq
  |cont=>exact False.elim hq
theorem Du(F:FnOk X.prog X.w X.K X.mg X.base CX k f fd ps sp)(hr:Room k X.A)(hg:Gl X x)(hm:X.mg x=some (.ref f))(hk:PySem.W.keepIn X.K (.ref f)=true)(hb:Binds X.K fd ps ds)(hd:Vals Ef ds)(hx:Passes CX X E)
 (ha:PA X (e::es) t)(rp:(x==("__debug__":Str))=false:=by decide)(he:starEach (e::es) X.env=(false,eval e X.env)::starEach es X.env:=by rfl)(nO:(backTo pos (starEach es X.env)).any (·.1)=false:=by rfl):
 PE X (.Call (.Name x p) (e::es) [] pos) (I8 sp Ef E t):=by
 intro pins s σ H Q I h
 refine wpAny_Call_Name_kw (xx I hg hm ?_ rp)
 refine PySem.W.callWith_K (h₀:=X.base) I.ok.mod.kin hk (cg (ha pos pins s σ H _ I h) fun us s1 ⟨vs,H1,I1,r,q⟩=>⟨I1.kIn,?_⟩) he nO
 exact Gz F hr hb hd hx I1 r q
structure Mk (K:W.Frag) (C f:Addr):Prop where
 makes:PySem.W.makesIn K C=true
 init:PySem.W.findIn K (.ref C) "__init__"=some (some (.ref f))
 fn:PySem.W.isFn K (.ref f)=true
 kp:PySem.W.keepIn K (.ref C)=true
end
section
variable{X:Cx}{CX:vv}{k:Nat}{f C:Addr}{fd:FuncData}{ps ks:List Str}{sp:Sp}{E:XK}{x m:Str}{p pos apos N0:Pos}{e o:Expr}{es:List Expr}{OD:List Keyword}{te ta:TE}{t tk:TA}{nm:Option Str}
structure KBinds (K:W.Frag) (fd:FuncData) (ps ks:List Str) (g:List Value→List Value→List Value) (gV:List V→List V→List V):Prop where
 to:∀(s:Shared) (us ws:List Value),K.In s.heap→(g us ws).length=ps.length→BindsTo s fd ⟨us,ks.zip ws⟩ (ps.zip (g us ws))
 rel:∀{vs:List V}{us:List Value}{zs:List V}{ws:List Value},Vals vs us→Vals zs ws→Vals (gV vs zs) (g us ws)
variable{g:List Value→List Value→List Value}{gV:List V→List V→List V}
end
structure FnScope (N P:List Str) (sc:Scope):Prop where
 kind:sc.kind= .function
 co:sc.isCoroutine=false
 gen:sc.isGenerator=false
 nd:N.Nodup
 pre:N.take P.length=P
 par:∀x∈P,sc.names.lookup x=some .local∨sc.names.lookup x=some .cell
 nofree:∀y∈sc.names,y.2≠ .free
theorem pW{kindOf:Str→Option NameKind}{x:Str}:∀{binds:List (Str×Value)}{m:Str→Option Value},(∀v,(x,v)∉binds)→bindL kindOf binds m x=m x
 |[],_,_=>rfl
 |(n,v)::r,m,h=>by
  unfold bindL
  rw[pW fun w hw=>h w (List.mem_cons_of_mem _ hw)]
  split
  ·have:x≠n:=by rintro rfl;exact h v List.mem_cons_self
   simp[this]
  ·rfl
theorem pU{kindOf:Str→Option NameKind}{x:Str}:∀{binds:List (Str×Value)}{m:Str→Option Value},(∀v,(x,v)∉binds)→bindC kindOf binds m x=m x
 |[],_,_=>rfl
 |(n,v)::r,m,h=>by
  unfold bindC
  rw[pU fun w hw=>h w (List.mem_cons_of_mem _ hw)]
  split
  ·rfl
  ·have:x≠n:=by rintro rfl;exact h v List.mem_cons_self
   simp[this]
theorem pV{kindOf:Str→Option NameKind}{x:Str}{v:Value}:∀{P:List Str}{vs:List Value}{i:Nat}{m:Str→Option Value},P.Nodup→P[i]? =some x→vs[i]? =some v→kindOf x=some .local→
 bindL kindOf (P.zip vs) m x=some v
 |[],_,_,_,_,h,_,_=>by simp at h
 |_::_,[],_,_,_,_,h,_=>by simp at h
 |p::P,w::vs,0,m,nd,h1,h2,hk=>by
  simp at h1 h2;subst h1;subst h2
  show bindL kindOf ((p,w)::P.zip vs) m p=_
  unfold bindL
  rw[pW fun v hv=>(List.nodup_cons.mp nd).1 (List.of_mem_zip hv).1,if_pos hk]
  simp
 |p::P,w::vs,i+1,m,nd,h1,h2,hk=>by
  show bindL kindOf ((p,w)::P.zip vs) m x=_
  unfold bindL
  exact pV (i:=i) (List.nodup_cons.mp nd).2 (by simpa using h1) (by simpa using h2) hk
theorem pT{kindOf:Str→Option NameKind}{x:Str}{v:Value}:∀{P:List Str}{vs:List Value}{i:Nat}{m:Str→Option Value},P.Nodup→P[i]? =some x→vs[i]? =some v→kindOf x≠some .local→
 bindC kindOf (P.zip vs) m x=some v
 |[],_,_,_,_,h,_,_=>by simp at h
 |_::_,[],_,_,_,_,h,_=>by simp at h
 |p::P,w::vs,0,m,nd,h1,h2,hk=>by
  simp at h1 h2;subst h1;subst h2
  show bindC kindOf ((p,w)::P.zip vs) m p=_
  unfold bindC
  rw[pU fun v hv=>(List.nodup_cons.mp nd).1 (List.of_mem_zip hv).1,if_neg hk]
  simp
 |p::P,w::vs,i+1,m,nd,h1,h2,hk=>by
  show bindC kindOf ((p,w)::P.zip vs) m x=_
  unfold bindC
  exact pT (i:=i) (List.nodup_cons.mp nd).2 (by simpa using h1) (by simpa using h2) hk
def start(N:List Str)(vs:List V):St:=vs.map some++List.replicate (N.length - vs.length) none
def fk(CX:vv)(P:Program)(w:World)(K:W.Frag)(mg:Str→Option Value)(base:Heap)(N:List Str)(qual:Str)(scope:Scope)(f:Addr)(cd:Value)(A:Around)(outer:List Env)(s:Shared)(H:Hp)(E:XK):Cx where
 prog:=P
 w:=w
 K:=K
 mg:=mg
 base:=base
 A:=A.deeper (envOfC qual scope s.heap.objs.size f cd)
 N:=N
 s₀:=s
 H₀:=H
 env:=envOfC qual scope s.heap.objs.size f cd
 outer:=outer
 stack:=envOfC qual scope s.heap.objs.size f cd::outer
 ex:=[]
 calm:=true
 fn:=fun _=>true
 pn:=[]
 xe:=fun e s'=>wpAny (model P w) (A.deeper (envOfC qual scope s.heap.objs.size f cd)) (leaving (envOfC qual scope s.heap.objs.size f cd) e) (fun _ IV=>CX outer H s E e IV) (fun e' IV=>CX outer H s E e' IV) s'
theorem tm{sc:Scope}{n:Nat}{x:Str}(h:sc.names.lookup x=some .cell):∃c,(cellsFrom n sc.names []).lookup x=some c:=by
 have q:=PySem.W.cellsFrom_some sc.names n [] (.inl h)
 exact Option.isSome_iff_exists.mp q
theorem yL{CX:vv}{P:Program}{w:World}{K:W.Frag}{mg:Str→Option Value}{base:Heap}{N ps:List Str}{qual:Str}{scope:Scope}{f:Addr}{cd:Value}{A:Around}{outer:List Env}{s s1:Shared}{H:Hp}{E:XK}{us:List Value}{vs:List V}
 (S:FnScope N ps scope)(hd:A.handled=none)(e0:Env0 P w K mg base A outer s H)(hl:vs.length=ps.length)(r:Vals vs us)
 (x:InCallC s s.heap.objs.size (bindL (envOfC qual scope s.heap.objs.size f cd).kindOf (ps.zip us) fun _=>none) (cellsFrom (s.heap.objs.size+1) scope.names []) (bindC (envOfC qual scope s.heap.objs.size f cd).kindOf (ps.zip us) fun _=>none) s1):
 Inv (fk CX P w K mg base N qual scope f cd A outer s H E) [] (start N vs) H s1:=by
 have nO:ps.length≤N.length:=by have:=congrArg List.length S.pre;rw[List.length_take] at this;omega
 obtain⟨h1,tk,rfl,hk⟩:=x.done
 have Ij:∀b:Addr,b∉(fk CX P w K mg base N qual scope f cd A outer s H E).ex:=fun b z=>absurd (show b∈([]:List Addr) from z) (by simp)
 refine⟨⟨e0.mod,S.kind,rfl,rfl,Nat.le_refl _,fun y z c h1 h2=>?_,fun y hy=>?_,fun y c _ h=>?_,fun _=>hd,Around.frames_deeper e0.frames, .inr ⟨rfl,rfl⟩,fun b z=>absurd z (Ij b),e0.bs,e0.bsz,fun b _ _=>Ij b,fun b z=>absurd z (Ij b),e0.funs,e0.frf⟩,
  rfl,e0.bare,Un.kept hk,⟨_,x.toInCall.ns,fun i y v h1 h2 h3=>?_⟩,fun y c h=>⟨_,x.cell y c h⟩,e0.hok.fresh (Nat.le_refl _),fun y c h=>?_,fun p hp=>absurd (show p∈([]:List (Addr×Obj)) from hp) (by simp),e0.hok.kept hk,?_⟩
 ·exact name_of_addr x.apart (PySem.mem_of_lookup h1) (PySem.mem_of_lookup h2)
 ·have hy:scope.names.lookup y=some .cell∨scope.names.lookup y=some .free:=hy
  rcases hy with hy | hy
  ·exact tm hy
  ·exact absurd rfl (S.nofree _ (PySem.mem_of_lookup hy))
 ·exact Nat.le_of_lt (x.above y c (PySem.mem_of_lookup h))
 ·have hi:i<vs.length:=by
   unfold start at h2
   by_cases hi:i<vs.length
   ·exact hi
   ·rw[List.getElem?_append_right (by simpa using hi)] at h2
    rw[List.getElem?_replicate] at h2
    split at h2<;>cases h2
  have ha:vs[i]? =some v:=by
   unfold start at h2
   rw[List.getElem?_append_left (by simpa using hi),List.getElem?_map] at h2
   cases e:vs[i]? with
   |none=>rw[e] at h2;cases h2
   |some a=>rw[e] at h2;cases h2;rfl
  obtain⟨u,hu,rv⟩:=r.get ha
  have hp:ps[i]? =some y:=by
   rw[←S.pre,List.getElem?_take_of_lt (by omega)];exact h1
  have Mc:ps.Nodup:=by rw[←S.pre];exact S.nd.sublist (List.take_sublist _ _)
  refine⟨u,rv,?_⟩
  rcases S.par y (List.mem_of_getElem? hp) with k | k
  ·exact .inl ⟨k,pV Mc hp hu k⟩
  ·obtain⟨c,e⟩:=tm (n:=s.heap.objs.size+1) k
   refine .inr ⟨.inl k,c,e,?_⟩
   have q:=x.cell y c e
   rw[pT Mc hp hu (by show scope.names.lookup y≠_;rw[k];decide)] at q
   exact q
 ·exact e0.hok.fresh (Nat.le_of_lt (x.above y c (PySem.mem_of_lookup h)))
 ·unfold start
  show _=N.length
  rw[List.length_append,List.length_map,List.length_replicate]
  omega
theorem Eh{CX:vv}{P:Program}{w:World}{K:W.Frag}{mg:Str→Option Value}{base:Heap}{k:Nat}{f:Addr}{name qual:Str}{params:Arguments}{body:List Stmt}{scope:Scope}{dV kV doc pm bQ ct oc:Value}{an od:Option Addr}
 {Dl:Array (Option Value)}{N ps:List Str}{sp:Sp}(lk:K.lookup f=some ⟨oc,od, .func (PySem.W.fnOf name qual params body scope dV kV doc pm an bQ ct),Dl⟩)(vp:PySem.W.codeIn K bQ qual=true)(S:FnScope N ps scope)
 (len:∀vs H Q E,sp vs H Q E→vs.length=ps.length)
 (nL:∀(A:Around) (outer:List Env) (s:Shared) (H:Hp) (vs:List V) (Q:VK) (E:XK),Room k (A.deeper (envOfC qual scope s.heap.objs.size f bQ))→sp vs H Q E→
  ∃t,PSs (fk CX P w K mg base N qual scope f bQ A outer s H E) body t∧t {nx:=fun _ H'=>Q .non H',rt:=Q} (start N vs) H):
 FnOk P w K mg base CX (k+1) f (PySem.W.fnOf name qual params body scope dV kV doc pm an bQ ct) ps sp:=by
 refine⟨len,fun A outer s H args us vs Q E hr e0 hb r Ci=>?_⟩
 have hl:=len _ _ _ _ Ci
 have KX:K.In s.heap:=e0.mod.kin.keeps fun b o e=>(e0.bs b o e).1
 have lim:s.heap.NoLimit:=e0.mod.nolimit.keeps fun b o e=>(e0.bs b o e).1
 have HF:∀y∈ps.zip us,scope.names.lookup y.1=some .local∨(scope.names.lookup y.1=some .cell∧((cellsFrom (s.heap.objs.size+1) scope.names []).lookup y.1).isSome=true):=fun⟨n,v⟩ hy=>by
  rcases S.par n (List.of_mem_zip hy).1 with q | q
  ·exact .inl q
  ·exact .inr ⟨q,PySem.W.cellsFrom_some _ _ _ (.inl q)⟩
 refine codeAny_call_function hr.depth (KX _ _ lk) rfl S.co S.gen rfl (PySem.W.codeRec_of KX vp) (hb _ _ _ _ ?_)
 refine wpAny_newFunctionEnv_cells S.kind HF fun env he s1 x=>?_
 subst he
 refine⟨lim.keeps x.toInCall.keep,codeAny_func ?_⟩
 obtain⟨t,ht,hq⟩:=nL A outer s H vs Q E (hr.deeper _) Ci
 have I:Inv (fk CX P w K mg base N qual scope f bQ A outer s H E) [] (start N vs) H s1:=yL S hr.hd e0 hl r x
 refine wpAny_mono (ht [] s1 (start N vs) H _ I hq) (fun fl s' hs=>?_) fun e s' hs=>hs
 have fin:∀{σ':St}{H':Hp}{v:V}{u:Value},Inv (fk CX P w K mg base N qual scope f bQ A outer s H E) [] σ' H' s'→RelV v u→Q v H'→CE outer P w H s Q u s':=
  fun {σ' H' v u} J rv q=>⟨v,H',J.os,J.bare,J.base,J.hok,rv,q⟩
 cases fl with
 |ret u=>
  obtain⟨v,σ',H',J,rv,q⟩:=hs
  exact fin J rv q
 |next=>
  obtain⟨σ',H',J,q⟩:=hs
  exact fin (v:=V.non) (u:=Value.none) J rfl q
 |brk=>
  obtain⟨_,_,_,q⟩:=hs
  exact False.elim q
 |cont=>
  obtain⟨_,_,_,q⟩:=hs
  exact False.elim q
section
variable{X:Cx}{x:Str}{p pos:Pos}{e:Expr}{es:List Expr}{t:TA}{id T:String}{r:List V→Hp→VK→Prop}
def K5(r:List V→Hp→VK→Prop)(t:TA):TE:=fun σ H Q=>t σ H fun vs H1=>r vs H1 Q
theorem Bi(hc:CallR X (.builtin id) r)(hg:Gl X x)(hm:X.mg x=none)(hv:bootBuiltins x=some (.builtin id))(ha:PA X (e::es) t)(hn:x≠"__name__":=by decide)(rp:(x==("__debug__":Str))=false:=by decide)
 (he:starEach (e::es) X.env=(false,eval e X.env)::starEach es X.env:=by rfl)(nO:(backTo pos (starEach es X.env)).any (·.1)=false:=by rfl):PE X (.Call (.Name x p) (e::es) [] pos) (K5 r t):=by
 intro pins s σ H Q I h
 refine wpAny_Call_Name_kw (jG I hg hm hv ?_ hn rp)
 exact PyProof.Rows.callWith_builtin1 (cg (ha pos pins s σ H _ I h) fun us s1 ⟨vs,H1,I1,r1,q1⟩=>hc pins s1 σ H1 vs us Q I1 r1 q1) he nO
theorem zh(hc:CallR X (.type T) r)(hg:Gl X x)(hm:X.mg x=none)(hv:bootBuiltins x=some (.type T))(ha:PA X (e::es) t)(hn:x≠"__name__":=by decide)(rp:(x==("__debug__":Str))=false:=by decide)
 (he:starEach (e::es) X.env=(false,eval e X.env)::starEach es X.env:=by rfl)(nO:(backTo pos (starEach es X.env)).any (·.1)=false:=by rfl):PE X (.Call (.Name x p) (e::es) [] pos) (K5 r t):=by
 intro pins s σ H Q I h
 refine wpAny_Call_Name_kw (jG I hg hm hv ?_ hn rp)
 exact PyProof.Rows.callWith_type1 (cg (ha pos pins s σ H _ I h) fun us s1 ⟨vs,H1,I1,r1,q1⟩=>hc pins s1 σ H1 vs us Q I1 r1 q1) he nO
end
end L2
namespace HT
open PySem PyProof.Rows
section
open PySem.SeqAt
open PySem.AutoSeq1 (wpAny_loadPart')
open PySem.MeetsSeq PySem.MeetsSeq2 PySem.MeetsSeq3
end
section
variable{prog:Program}{w:World}{A:Around}{E:Value→Shared→Prop}{s:Shared}
theorem cat_tup{t b:Addr}{vs ws:List Value}{Q:Value→Shared→Prop}(ht:IsTup s.heap t vs.toArray)(hb:IsTup s.heap b ws.toArray)(hv:vs≠[])
 (h1:ws=[]→Q (.ref t) s)(h2:ws≠[]→Q (.ref s.heap.objs.size) {s with heap:=s.heap.push {cls:= .type "tuple",data:= .seq (vs++ws).toArray} })
 (hsz:vs.length+ws.length≤sizeLine):wpAny (model prog w) A (binaryOp .Add (.ref t) (.ref b)) Q E s:=by
 obtain⟨⟨cls,dd,data,sl⟩,ho,hc,n,hd⟩:=id ht
 obtain⟨⟨JO,CA,data2,Jz⟩,Fi,E5,n2,hd2⟩:=id hb
 simp only at hc hd E5 hd2
 subst hc hd E5 hd2
 have e:vs.toArray++ws.toArray=(vs++ws).toArray:=by simp
 by_cases hw:ws=[]
 ·exact concat_meets ⟨_,ho,rfl⟩ ⟨_,Fi,rfl⟩ noFill_tuple_add seq_tuple_add PySem.F.slot_tuple_add PySem.F.entry_tuple_add (PySem.F.args_tuple_add_2 _ _)
   (tuple_addW1 t b vs.toArray ws.toArray n n2 dd CA sl Jz (by simpa using hv) (by simp[hw])) ⟨ho,Fi,h1 hw⟩
 ·refine concat_meets ⟨_,ho,rfl⟩ ⟨_,Fi,rfl⟩ noFill_tuple_add seq_tuple_add PySem.F.slot_tuple_add PySem.F.entry_tuple_add (PySem.F.args_tuple_add_2 _ _)
   (tuple_addW2 t b vs.toArray ws.toArray n n2 dd CA sl Jz (by simpa using hv) (by simpa using hw) (by rw[List.size_toArray,List.size_toArray];exact hsz)) ⟨ho,Fi,?_⟩
  rw[e]
  exact h2 hw
def sIx(n d:Nat):Option Int→Nat
 |none=>d
 |some v=>if v<0 then(v+(n:Int)).toNat else min v.toNat n
end
end HT
namespace L2
open PySem PySem.Spec PyProof.Rows
abbrev TO:=St→Hp→(Option Int→Hp→Prop)→Prop
theorem intsAre_of{ns:List Int}:∀{us:List Value},Vals (ns.map V.int) us→IntsAre us ns:=by
 induction ns with
 |nil=>intro us r;rw[List.map_nil] at r;cases r;exact .nil
 |cons n ns ih=>
  intro us r
  rw[List.map_cons] at r
  cases r with
  |cons r1 r2=>
   obtain⟨t,e⟩:=r1
   subst e
   exact .cons n t (ih r2)
section
variable{X:Cx}{e:Expr}{te:TE}{lo hi:Option Expr}{tl th:TO}{pos p2:Pos}
def Ms(X:Cx)(r:V→Option Int→Option Int→Hp→VK→Prop):Prop:=
 ∀(pins:List (Addr×Obj)) (s:Shared) (σ:St) (H:Hp) (x:V) (v vl vu:Value) (lo hi:Option Int) (sl:Addr) (Q:VK),Inv X pins σ H s→RelV x v→s.heap.IsSliceOf sl vl vu .none→IsPart vl lo→IsPart vu hi→r x lo hi H Q→
  ∃T id,typeLookup (.type T) "__getitem__"=pure (some (.builtin id))∧s.TypeIs v T∧wpAny (model X.prog X.w) X.A (getItem v (.ref sl)) (EP X pins σ Q) X.xe s
def Cw(xs:List V)(lo hi:Option Int):List V:=(xs.drop (HT.sIx xs.length 0 lo)).take (HT.sIx xs.length xs.length hi - HT.sIx xs.length 0 lo)
theorem tu(xs:List V)(lo hi:Option Int):(Cw xs lo hi).length≤xs.length:=by
 unfold Cw
 rw[List.length_take,List.length_drop]
 omega
def II(K:W.Frag):R2:=fun x y H Q=>∃a b xs ys,x= .ref a∧y= .ref b∧SqT K H a xs∧SqT K H b ys∧xs≠[]∧xs.length+ys.length≤sizeLine∧
 (ys=[]→Q (.ref a) H)∧(ys≠[]→∀p,H p=none→Q (.ref p) (upd H p (.tup (xs++ys))))
theorem Vals.nil_iff{xs:List V}{us:List Value}(r:Vals xs us):us=[]↔xs=[]:=by
 cases r with
 |nil=>simp
 |cons _ _=>simp
theorem De:OpR X (binaryOp .Add) (II X.K):=by
 intro pins s σ H x y v u Q I rx ry h
 obtain⟨a,b,xs,ys,rfl,rfl,ha,hb,hx,hz,q1,q2⟩:=h
 cases rx
 cases ry
 obtain⟨aF,r1,p1,_⟩:=I.tuple ha
 obtain⟨f7,r2,p2,_⟩:=I.tuple hb
 refine HT.cat_tup p1 p2 (fun z=>hx (r1.nil_iff.mp z)) (fun z=>⟨.ref a,H,I,rfl,q1 (r2.nil_iff.mp z)⟩) (fun z=>?_) (by rw[←r1.length,←r2.length];exact hz)
 refine⟨.ref s.heap.objs.size,_,I.laid (t':=s.toks) (o:= .tup (xs++ys)) (fun b ob q=>Heap.get?_push_of_some _ q) (Nat.le_refl _) ?_,rfl,q2 (fun w=>z (r2.nil_iff.mpr w)) _ (I.hok.fresh (Nat.le_refl _))⟩
 exact⟨by rw[List.length_append];exact hz,_,r1.append r2,IsTup.new _ _⟩
end
def Fv(n:Nat)(i:Int):Option Nat:=if 0≤i then(if i<n then some i.toNat else none) else if -(n:Int)≤i then some (i+n).toNat else none
def atI{α:Type}(xs:List α)(i:Int):Option α:=(Fv xs.length i).bind fun j=>xs[j]?
theorem CZ{n:Nat}{i:Int}{j:Nat}(h:Fv n i=some j):seqIndex? i n=some j∧j<n∧ -(n:Int)≤i∧i<n:=by
 unfold Fv at h
 by_cases h0:0≤i
 ·rw[if_pos h0] at h
  by_cases h1:i<n
  ·rw[if_pos h1] at h
   have e:i.toNat=j:=Option.some.inj h
   exact⟨by rw[seqIndex_of h0 h1,e],by omega,by omega,h1⟩
  ·rw[if_neg h1] at h;cases h
 ·rw[if_neg h0] at h
  by_cases h1: -(n:Int)≤i
  ·rw[if_pos h1] at h
   have e:(i+n).toNat=j:=Option.some.inj h
   exact⟨by rw[seqIndex_neg (by omega) h1,e],by omega,h1,by omega⟩
  ·rw[if_neg h1] at h;cases h
theorem qY{α:Type}{xs:List α}{i:Int}{v:α}(h:atI xs i=some v):∃j,seqIndex? i xs.length=some j∧xs[j]? =some v∧j<xs.length∧ -(xs.length:Int)≤i∧i<xs.length:=by
 unfold atI at h
 cases e:Fv xs.length i with
 |none=>rw[e] at h;cases h
 |some j=>
  rw[e] at h
  obtain⟨h1,h2,h3,h4⟩:=CZ e
  exact⟨j,h1,h,h2,h3,h4⟩
def iQ(b:Expr):Prop:=∀o i,subscripted b false o i=operate [o,i] (getItem o i)
def G5(X:Cx)(r:R2):Prop:=
 ∀(value slice:Expr) (pins:List (Addr×Obj)) (s:Shared) (σ:St) (H:Hp) (x y:V) (v u:Value) (Q:VK),Inv X pins σ H s→RelV x v→RelV y u→r x y H Q→
  subscripted slice false v u=operate [v,u] (getItem v u)→wpAny (model X.prog X.w) X.A (subscriptTail value slice v u) (EP X pins σ Q) X.xe s
def JI(X:Cx)(id:String)(r:V→List V→Hp→VK→Prop):Prop:=
 ∀(pins:List (Addr×Obj)) (s:Shared) (σ:St) (H:Hp) (x:V) (xs:List V) (v:Value) (us:List Value) (Q:VK),Inv X pins σ H s→RelV x v→Vals xs us→r x xs H Q→
  wpAny (model X.prog X.w) X.A (call (.builtin id) (v::us)) (EP X pins σ Q) X.xe s
section
variable{X:Cx}{a b:Expr}{ta tb:TE}{pos:Pos}
theorem IA{r:R2}(hr:G5 X r)(ha:PE X a ta)(hb:PE X b tb)(hs:iQ b):PE X (.Subscript a b pos) (Jb r ta tb):=by
 intro pins s σ H Q I h
 exact Subscript_ (EH ha hb I h fun v u s2 x y H2 I2 rx ry q=>hr a b pins s2 σ H2 x y v u Q I2 rx ry q (hs _ _))
def Gx(K:W.Frag):R2:=fun x y H Q=>∃p xs i v,x= .ref p∧y= .int i∧SqL K H p xs∧atI xs i=some v∧Q v H
def IM(K:W.Frag):R2:=fun x y H Q=>∃p xs i v,x= .ref p∧y= .int i∧SqT K H p xs∧atI xs i=some v∧Q v H
def IL:R2:=fun x y H Q=>∃z i c,x= .str z∧y= .int i∧z.length≤sizeLine∧atI z.cps.toList i=some c∧Q (.str ⟨#[c]⟩) H
theorem xq:G5 X (Gx X.K):=by
 intro value slice pins s σ H x y v u Q I rx ry h hs
 obtain⟨p,xs,i,z,rfl,rfl,hq,he,q⟩:=h
 cases rx
 obtain⟨t,rfl⟩:=ry
 obtain⟨aF,r,pl,hz⟩:=I.list hq
 obtain⟨j,h1,h2,h3,h4,h5⟩:=qY he
 obtain⟨w,ew,zD⟩:=r.get h2
 have hl:=r.length
 have hn:=kZ
 have fin:EP X pins σ Q w s:=⟨z,H,I,zD,q⟩
 by_cases h0:0≤i
 ·have hj:i.toNat=j:=by
   rw[seqIndex_of h0 h5] at h1
   exact Option.some.inj h1
  exact item_listR pl.isList h0 (by omega) (by rw[hj];simpa using ew) fin hs
 ·have hj:(i+(aF.toArray.size:Int)).toNat=j:=by
   rw[seqIndex_neg (by omega) h4] at h1
   rw[List.size_toArray,←hl]
   exact Option.some.inj h1
  exact subscriptTail_builtinR (x:=w) pl.isList.typeIs slot_list_getitem.lookup
   (wpAny_getItem_list_neg (Q:=fun r s'=>r=w∧EP X pins σ Q r s') pl.isList (by omega) (by rw[List.size_toArray]<;>omega) (by omega) (by rw[hj];simpa using ew) ⟨rfl,fin⟩) hs
theorem Fy:G5 X (IM X.K):=by
 intro value slice pins s σ H x y v u Q I rx ry h hs
 obtain⟨p,xs,i,z,rfl,rfl,hq,he,q⟩:=h
 cases rx
 obtain⟨t,rfl⟩:=ry
 obtain⟨aF,r,pl,hz⟩:=I.tuple hq
 obtain⟨j,h1,h2,h3,h4,h5⟩:=qY he
 obtain⟨w,ew,zD⟩:=r.get h2
 have hl:=r.length
 have hn:=kZ
 have fin:EP X pins σ Q w s:=⟨z,H,I,zD,q⟩
 exact subscriptTail_builtinR (x:=w) pl.typeIs slot_tuple_getitem.lookup
  (getItem_tuple (j:=j) (Q:=fun r s'=>r=w∧EP X pins σ Q r s') pl (by omega) (by omega) (by rw[List.size_toArray,←hl];exact h1) (by simpa using ew) ⟨rfl,fin⟩) hs
theorem Fx:G5 X IL:=by
 intro value slice pins s σ H x y v u Q I rx ry h hs
 obtain⟨z,i,c,rfl,rfl,hz,he,q⟩:=h
 obtain⟨t,rfl⟩:=rx
 obtain⟨t',rfl⟩:=ry
 obtain⟨j,h1,h2,h3,h4,h5⟩:=qY he
 have hl:z.cps.toList.length=z.length:=by simp[Str.length]
 rw[hl] at h1 h4 h5
 have hn:=kZ
 exact tail_any (typeIs_str s z t) slot_str_getitem.lookup (getItem_str (c:=c) (by
  have e1:decide (i< -(2 ^ 63:Int))=false:=decide_eq_false (by omega)
  have e2:decide (i≥2 ^ 63)=false:=decide_eq_false (by omega)
  rw[e1,e2,Bool.or_false]) (by rw[h1];simpa using h2) ⟨.str ⟨#[c]⟩,H,I.tok _,⟨_,rfl⟩,q⟩) hs
theorem Inv.lst{pins:List (Addr×Obj)}{σ:St}{H:Hp}{s:Shared}{p:Addr}{xs:List V}(I:Inv X pins σ H s)(h:H p=some (.lst xs)):
 ∃(aF:List Value) (n:Nat),Vals xs aF∧s.heap.get? p=some {cls:= .type "list",data:= .seq aF.toArray n}∧xs.length≤sizeLine:=by
 obtain⟨z,aF,n,r,e⟩:=I.hok p _ h
 exact⟨aF,n,r,e,z⟩
theorem sH(lo hi:Option Int)(n:Nat):(sliceBounds lo hi none n).1=((HT.sIx n 0 lo:Nat):Int)∧(sliceBounds lo hi none n).2.1=((HT.sIx n n hi:Nat):Int)∧(sliceBounds lo hi none n).2.2=1:=by
 refine⟨?_,?_,rfl⟩
 ·cases lo with
  |none=>simp[sliceBounds,HT.sIx]
  |some i=>
   simp only[sliceBounds,HT.sIx,Option.getD_none,show (1:Int)>0 by decide,if_true]
   by_cases h:i<0
   ·simp only[h,if_true]<;>omega
   ·simp only[h,if_false]<;>omega
 ·cases hi with
  |none=>simp[sliceBounds,HT.sIx]
  |some i=>
   simp only[sliceBounds,HT.sIx,Option.getD_none,show (1:Int)>0 by decide,if_true]
   by_cases h:i<0
   ·simp only[h,if_true]<;>omega
   ·simp only[h,if_false]<;>omega
theorem pN(aF:List Value)(lo hi:Option Int):slicePick aF.toArray lo hi none=((aF.drop (HT.sIx aF.length 0 lo)).take (HT.sIx aF.length aF.length hi - HT.sIx aF.length 0 lo)).toArray:=by
 obtain⟨h1,h2,h3⟩:=sH lo hi aF.toArray.size
 unfold slicePick
 rw[h1,h2,h3]
 simp only[sliceRange_one,pick_run,List.size_toArray]<;>rfl
def KY(K:W.Frag):V→Option Int→Option Int→Hp→VK→Prop:=fun x lo hi H Q=>∃a xs,x= .ref a∧SqL K H a xs∧∀p,H p=none→Q (.ref p) (upd H p (.lst (Cw xs lo hi)))
theorem JA:Ms X (KY X.K):=by
 intro pins s σ H x v vl vu lo hi sl Q I rx hs pl pu h
 obtain⟨a,xs,rfl,hx,q⟩:=h
 cases rx
 obtain⟨aF,r,ht,hz⟩:=I.list hx
 have hlen:=r.length
 refine⟨"list",_,slot_list_getitem.lookup,ht.isList.typeIs,?_⟩
 refine wpAny_getItem_list_slice ht.isList hs pl pu .none (by simp) ?_ (by rw[List.size_toArray]<;>omega)
 rw[pN,←hlen]
 refine⟨.ref s.heap.objs.size,_,I.laid (t':=s.toks) (o:= .lst (Cw xs lo hi)) (fun b ob q=>Heap.get?_push_of_some _ q) (Nat.le_refl _) ?_,rfl,q _ (I.hok.fresh (Nat.le_refl _))⟩
 exact⟨Nat.le_trans (tu xs lo hi) hz,_,0,(r.drop (HT.sIx xs.length 0 lo)).take (HT.sIx xs.length xs.length hi - HT.sIx xs.length 0 lo),Heap.get?_push_size _ rfl⟩
def lG:V→Bool
 | .non=>true
 | .bl _=>true
 | .int _=>true
 | .str _=>true
 |_=>false
def B9:V→V→Bool
 | .non, .non=>true
 | .bl a, .bl b=>a==b
 | .bl a, .int b=>(if a then 1 else 0)==b
 | .int a, .bl b=>a==(if b then 1 else 0)
 | .int a, .int b=>a==b
 | .str a, .str b=>a==b
 |_,_=>false
theorem ER{A:Around}{s:Shared}{y x:V}{u v:Value}(ry:RelV y u)(rx:RelV x v)(fy:lG y=true)(fx:lG x=true):SeqAt.EqAt A s u v (B9 y x):=by
 cases y with
 |non=>
  cases ry
  cases x with
  |non=>cases rx;exact SeqAt.EqAt.same _
  |bl b=>cases rx;exact SeqAt.EqAt.none_bool b
  |int b=>obtain⟨t,rfl⟩:=rx;exact SeqAt.EqAt.none_int b t
  |str b=>obtain⟨t,rfl⟩:=rx;exact SeqAt.EqAt.none_str b t
  |_=>exact absurd (show false=true from fx) Bool.false_ne_true
 |bl a=>
  cases ry
  cases x with
  |non=>cases rx;exact SeqAt.EqAt.bool_none a
  |bl b=>cases rx;exact SeqAt.EqAt.bool_bool a b
  |int b=>obtain⟨t,rfl⟩:=rx;exact SeqAt.EqAt.bool_int a b t
  |str b=>obtain⟨t,rfl⟩:=rx;exact SeqAt.EqAt.bool_str a b t
  |_=>exact absurd (show false=true from fx) Bool.false_ne_true
 |int a=>
  obtain⟨t',rfl⟩:=ry
  cases x with
  |non=>cases rx;exact SeqAt.EqAt.int_none a t'
  |bl b=>cases rx;exact SeqAt.EqAt.int_bool a t' b
  |int b=>obtain⟨t,rfl⟩:=rx;exact SeqAt.EqAt.int_int a t' b t
  |str b=>obtain⟨t,rfl⟩:=rx;exact SeqAt.EqAt.int_str a t' b t
  |_=>exact absurd (show false=true from fx) Bool.false_ne_true
 |str a=>
  obtain⟨t',rfl⟩:=ry
  cases x with
  |non=>cases rx;exact SeqAt.EqAt.str_none a t'
  |bl b=>cases rx;exact SeqAt.EqAt.str_bool a t' b
  |int b=>obtain⟨t,rfl⟩:=rx;exact SeqAt.EqAt.str_int a t' b t
  |str b=>obtain⟨t,rfl⟩:=rx;exact SeqAt.EqAt.str_str a t' b t
  |_=>exact absurd (show false=true from fx) Bool.false_ne_true
 |_=>exact absurd (show false=true from fy) Bool.false_ne_true
def CJ(x:V)(u:Value):Bool:=match u with
 | .none=>B9 .non x
 | .bool b=>B9 (.bl b) x
 | .int i _=>B9 (.int i) x
 | .str z _=>B9 (.str z) x
 |_=>false
theorem Ad{x y:V}{u:Value}(r:RelV y u)(f:lG y=true):CJ x u=B9 y x:=by
 cases y with
 |non=>cases r;rfl
 |bl b=>cases r;rfl
 |int i=>obtain⟨t,rfl⟩:=r;rfl
 |str z=>obtain⟨t,rfl⟩:=r;rfl
 |_=>exact absurd (show false=true from f) Bool.false_ne_true
theorem qT{x:V}:∀{xs:List V}{us:List Value},Vals xs us→xs.all lG=true→us.any (CJ x)=xs.any fun y=>B9 y x
 |_,_, .nil,_=>rfl
 |y::xs,u::us, .cons r t,f=>by
  rw[List.all_cons,Bool.and_eq_true] at f
  rw[List.any_cons,List.any_cons,Ad r f.1,qT t f.2]
theorem n4{A:Around}{s:Shared}{x:V}{v:Value}(rx:RelV x v)(fx:lG x=true):∀{xs:List V}{us:List Value},Vals xs us→xs.all lG=true→∀u∈us,SeqAt.EqAt A s u v (CJ x u)
 |_,_, .nil,_=>fun u hu=>by cases hu
 |y::xs,u::us, .cons r t,f=>fun u' hu=>by
  rw[List.all_cons,Bool.and_eq_true] at f
  rcases List.mem_cons.mp hu with rfl | hu
  ·rw[Ad r f.1];exact ER r rx f.1 fx
  ·exact n4 rx fx t f.2 u' hu
def Jv(x:V)(xs:List V):Bool:=xs.any fun y=>B9 y x
def Mi(K:W.Frag)(neg:Bool):R2:=fun x y H Q=>∃p xs,y= .ref p∧(SqL K H p xs∨SqT K H p xs)∧lG x=true∧xs.all lG=true∧Q (.bl (if neg then !Jv x xs else Jv x xs)) H
theorem rY:OpR X (compareOp .NotIn) (Mi X.K true):=by
 intro pins s σ H x y v u Q I rx ry h
 obtain⟨p,xs,rfl,hq,fx,fs,q⟩:=h
 cases ry
 rcases hq with hq | hq
 ·obtain⟨aF,r,pl,hz⟩:=I.list hq
  refine SeqAt.notIn_listAt (CJ x) pl.isList (fun w hw=>n4 rx fx r fs w (by simpa using hw)) ⟨.bl _,H,I,rfl,?_⟩
  rw[show aF.toArray.any (CJ x)=aF.any (CJ x) by simp,qT r fs]
  exact q
 ·obtain⟨aF,r,pl,hz⟩:=I.tuple hq
  refine SeqAt.notIn_tupleAt (CJ x) pl (fun w hw=>n4 rx fx r fs w (by simpa using hw)) ⟨.bl _,H,I,rfl,?_⟩
  rw[show aF.toArray.any (CJ x)=aF.any (CJ x) by simp,qT r fs]
  exact q
theorem q_:CallR X (.builtin "len") (fun xs H Q=>∃p ys,xs=[.ref p]∧(SqL X.K H p ys∨SqT X.K H p ys)∧Q (.int ys.length) H):=by
 intro pins s σ H xs us Q I r h
 obtain⟨p,ys,rfl,hq,q⟩:=h
 obtain⟨u,rfl,rx⟩:=vals1 r
 cases rx
 have hn:=kZ
 rcases hq with hq | hq
 ·obtain⟨aF,r',pl,hz⟩:=I.list hq
  have hlen:=r'.length
  exact Calls.call_len_list pl.isList (by simp only[List.size_toArray]<;>omega) ⟨.int ys.length,H,I.tok _,⟨s.toks+1,by rw[List.size_toArray,hlen]⟩,q⟩
 ·obtain⟨aF,r',pl,hz⟩:=I.tuple hq
  have hlen:=r'.length
  exact len_tuple pl (by simp only[List.size_toArray]<;>omega) ⟨.int ys.length,H,I.tok _,⟨s.toks+1,by rw[List.size_toArray,hlen]⟩,q⟩
theorem ra:CallR X (.builtin "len") (fun xs H Q=>∃z,xs=[.str z]∧z.length≤sizeLine∧Q (.int z.length) H):=by
 intro pins s σ H xs us Q I r h
 obtain⟨z,rfl,hz,q⟩:=h
 obtain⟨u,rfl,t,rfl⟩:=vals1 r
 have hn:=kZ
 exact len_str (by omega) ⟨.int z.length,H,I.tok _,⟨_,rfl⟩,q⟩
theorem CallR.or{f:Value}{r r':List V→Hp→VK→Prop}(h:CallR X f r)(h':CallR X f r'):CallR X f (fun xs H Q=>r xs H Q∨r' xs H Q):=by
 intro pins s σ H xs us Q I rs q
 rcases q with q | q
 ·exact h pins s σ H xs us Q I rs q
 ·exact h' pins s σ H xs us Q I rs q
theorem pq:CallR X (.type "tuple") (fun xs H Q=>∃p ys,xs=[.ref p]∧((SqL X.K H p ys∧∀l,H l=none→Q (.ref l) (upd H l (.tup ys)))∨(SqT X.K H p ys∧Q (.ref p) H))):=by
 intro pins s σ H xs us Q I r h
 obtain⟨p,ys,rfl,h⟩:=h
 obtain⟨u,rfl,rx⟩:=vals1 r
 cases rx
 rcases h with⟨hq,q⟩ | ⟨hq,q⟩
 ·obtain⟨aF,r',pl,hz⟩:=I.list hq
  have hlen:=r'.length
  refine call_tuple_list pl.isList (fun h' kp=>?_) (by simp only[List.size_toArray]<;>omega)
  have I1:Inv X pins σ H {s with heap:=h'}:=I.kept (t':=s.toks) kp
  have I2:Inv X pins σ (upd H h'.objs.size (.tup ys)) {s with heap:=h'.push {cls:= .type "tuple",data:= .seq aF.toArray} }:=
   I1.laid (t':=s.toks) (fun b o e=>Heap.get?_push_of_some _ e) (Nat.le_refl _) (show ObjOk X.prog X.w _ _ _ (.tup ys) from⟨hz,aF,r',IsTup.new _ _⟩)
  exact⟨.ref h'.objs.size,_,I2,rfl,q _ (I1.hok.fresh (Nat.le_refl _))⟩
 ·obtain⟨aF,r',pl,hz⟩:=I.tuple hq
  exact call_tuple_same pl ⟨.ref p,H,I,rfl,q⟩
def JD(K:W.Frag)(T:String)(x:V)(H:Hp):Prop:=match x with
 | .str _=>T="str"
 | .int _=>T="int"
 | .ref p=>(T="list"∧∃xs,SqL K H p xs)∨(T="tuple"∧∃o,K.lookup p=some o∧o.cls= .type "tuple"∧o.dict=none)∨
    (T="dict"∧((∃au,H p=some (.dK au))∨∃au,H p=some (.dT au)))∨(T="set"∧∃S n,H p=some (.set S n))
 |_=>False
theorem GO{pins:List (Addr×Obj)}{σ:St}{H:Hp}{s:Shared}{T:String}{x:V}{v:Value}(I:Inv X pins σ H s)(r:RelV x v)(ty:JD X.K T x H):
 s.TypeIs v T∧∀a,v= .ref a→∃ob,s.heap.get? a=some ob∧ob.dict=none:=by
 cases x with
 |str z=>
  obtain⟨t,rfl⟩:=r
  cases (show T="str" from ty)
  exact⟨typeIs_str s z t,fun _ e=>nomatch e⟩
 |int i=>
  obtain⟨t,rfl⟩:=r
  cases (show T="int" from ty)
  exact⟨typeIs_int s i t,fun _ e=>nomatch e⟩
 |ref p=>
  cases r
  rcases ty with⟨rfl,xs,hq⟩ | ⟨rfl,o,hk,hc,hd⟩ | ⟨rfl,hk⟩ | ⟨rfl,S,n,hk⟩
  ·obtain⟨aF,_,pl,_⟩:=I.list hq
   refine⟨pl.isList.typeIs,fun a e=>?_⟩
   cases e
   obtain⟨o,n,e,c,hd,_⟩:=pl
   exact⟨o,e,hd⟩
  ·refine⟨⟨o,I.kIn p o hk,hc⟩,fun a e=>?_⟩
   cases e
   exact⟨o,I.kIn _ o hk,hd⟩
  ·have z:∃o,s.heap.get? p=some o∧o.ExactDict:=by
    rcases hk with⟨au,hk⟩ | ⟨au,hk⟩
    ·obtain⟨_,_,_,_,o,_,_,e,ex,_⟩:=I.hok p _ hk
     exact⟨o,e,ex⟩
    ·obtain⟨_,_,_,_,o,_,_,e,ex,_⟩:=I.hok p _ hk
     exact⟨o,e,ex⟩
   obtain⟨o,e,ex⟩:=z
   refine⟨⟨o,e,ex.1⟩,fun a e2=>?_⟩
   cases e2
   exact⟨o,e,ex.2.1⟩
  ·obtain⟨o,_,_,_,e,ex,_⟩:=I.hok p _ hk
   refine⟨⟨o,e,ex.1⟩,fun a e2=>?_⟩
   cases e2
   exact⟨o,e,ex.2.1⟩
 |_=>exact False.elim ty
def K4(K:W.Frag)(T:String)(r:V→List V→Hp→VK→Prop)(to:TE)(t:TA):TE:=fun σ H Q=>to σ H fun x H1=>JD K T x H1∧t σ H1 fun xs H2=>r x xs H2 Q
variable{o e:Expr}{es:List Expr}{to:TE}{t:TA}{name:Str}{apos bj:Pos}{T id:String}{r:V→List V→Hp→VK→Prop}
theorem Bh(pa:PlainAttrs T)(slot:Slot T name id)(Ks:typeOf (.builtin id)=pure (.type "method_descriptor"))(hm:JI X id r)(ho:PE X o to)(ha:PA X (e::es) t)
 (j1:attributeBase o name X.env (eval o X.env)=eval o X.env:=by rfl)
 (rq:((backTo bj (starEach (e::es) X.env)).all (fun x=>!x.1)&&(backToKw bj (keywordEach [] X.env)).all (fun x=>x.1.isSome)
  &&decide ((e::es).length+([]:List Keyword).length+(if ([]:List Keyword).isEmpty then 0 else 1)<30))=true:=by rfl)
 (j2:(apos.endLine==bj.line)=true:=by rfl) (hs:starEach (e::es) X.env=(false,eval e X.env)::starEach es X.env:=by rfl) (vS:(backTo bj (starEach es X.env)).any (·.1)=false:=by rfl):
 PE X (.Call (.Attribute o name apos) (e::es) [] bj) (K4 X.K T r to t):=by
 intro pins s σ H Q I h
 refine wpAny_Call_method_late j1 rq j2 rfl (cg (ho pins s σ H _ I h) fun v s1 ⟨x,H1,I1,r1,ty,q1⟩=>?_)
 obtain⟨h1,h2⟩:=GO I1 r1 ty
 refine⟨T,id,pa,slot,Ks,h1,h2,?_⟩
 have hA:=ha bj pins s1 σ H1 _ I1 q1
 rw[hs] at hA⊢
 refine Calls.callWith_builtin (by show (false||(backTo bj (starEach es X.env)).any (·.1))=false;rw[vS]<;>rfl) (Calls.evalArgs_plain ?_)
 exact cg hA fun us s2 ⟨vs,H2,I2,r2,q2⟩=>hm pins s2 σ H2 x vs v us Q I2 r1 r2 q2
end
def Lj(X:Cx)(id:String)(r:V→List V→Hp→VK→Prop):Prop:=
 ∀(pins:List (Addr×Obj)) (s:Shared) (σ:St) (H:Hp) (x:V) (xs:List V) (v:Value) (us:List Value) (Q:VK),Inv X pins σ H s→RelV x v→Vals xs us→r x xs H Q→
  wpAny (model X.prog X.w) X.A (call (.builtin id) (v::us)) (EP X pins σ Q) X.xe s
theorem Vals.one:∀{x:V}{us:List Value},Vals [x] us→∃u,us=[u]∧RelV x u
 |_,_, .cons r .nil=>⟨_,rfl,r⟩
section
variable{X:Cx}{pins:List (Addr×Obj)}{σ:St}{H:Hp}{s:Shared}{l b:Addr}{xs ys zs:List V}
theorem Inv.lset{aF its':List Value}{n:Nat}{f:Array Value→Array Value}{t':Nat}(I:Inv X pins σ H s)(hH:H l=some (.lst xs))
 (e:s.heap.get? l=some {cls:= .type "list",data:= .seq aF.toArray n})(hf:f aF.toArray=its'.toArray)(hv:Vals ys its')(hz:ys.length≤sizeLine):
 Inv X pins σ (upd H l (.lst ys)) {s with heap:=s.heap.update l (Obj.mapSeq f),toks:=t'}:=by
 have q:=PySem.IsL.update e f
 rw[hf] at q
 refine I.write (x:=l) (e:=l) (by rw[hH];exact trivial) (.inl rfl) (fun b' u hb hu=>(Heap.get?_update_other s.heap (Obj.mapSeq f) (Ne.symm hb)).trans hu) ⟨_,q⟩ ?_
 exact⟨hz,its',_,hv,q⟩
theorem Inv.lstM(I:Inv X pins σ H s)(hH:H l=some (.lst xs)):xs.length≤sizeLine∧∃(aF:List Value) (n:Nat),Vals xs aF∧xs.length=aF.length∧s.heap.get? l=some {cls:= .type "list",data:= .seq aF.toArray n}:=by
 obtain⟨z,aF,n,r,e⟩:=I.hok l _ hH
 exact⟨z,aF,n,r,r.length,e⟩
theorem AX{n:Nat}(h:n≤sizeLine):Builtin.List.listTooLong n=false:=by
 unfold Builtin.List.listTooLong
 exact decide_eq_false (by omega)
end
section
variable{X:Cx}
def xZ:V→List V→Hp→VK→Prop:=fun x vs H Q=>∃l xs y,x= .ref l∧vs=[y]∧H l=some (.lst xs)∧xs.length<sizeLine∧Q .non (upd H l (.lst (xs++[y])))
theorem qo:Lj X "list.append" xZ:=by
 intro pins s σ H x vs v us Q I rx rv h
 obtain⟨l,xs,y,rfl,rfl,hH,hz,q⟩:=h
 cases rx
 obtain⟨u,rfl,ru⟩:=rv.one
 obtain⟨z,aF,n,r,hl,e⟩:=I.lstM hH
 refine call_meets F.slot_list_append ⟨_,e,rfl⟩ F.entry_list_append (F.args_list_append_2 _ _) (PySem.list_append l aF.toArray n u (by rw[List.size_toArray];omega)) ⟨e,?_⟩
 refine⟨.non,_,I.lset (its':=aF++[u]) hH e (by simp) (r.append (.cons ru .nil)) ?_,rfl,q⟩
 rw[List.length_append,List.length_singleton]
 omega
def x2:V→List V→Hp→VK→Prop:=fun x vs H Q=>∃l b xs zs,x= .ref l∧vs=[.ref b]∧H l=some (.lst xs)∧H b=some (.lst zs)∧xs.length+zs.length≤sizeLine∧Q .non (upd H l (.lst (xs++zs)))
theorem yZ:Lj X "list.extend" x2:=by
 intro pins s σ H x vs v us Q I rx rv h
 obtain⟨l,b,xs,zs,rfl,rfl,hH,hB,hz,q⟩:=h
 cases rx
 obtain⟨u,rfl,ru⟩:=rv.one
 cases ru
 obtain⟨z,aF,n,r,hl,e⟩:=I.lstM hH
 obtain⟨z2,f7,n2,r2,Cd,e2⟩:=I.lstM hB
 have hsz:aF.toArray.size+f7.toArray.size≤sizeLine:=by rw[List.size_toArray,List.size_toArray];omega
 have HI:¬(!aF.toArray.isEmpty&&Builtin.List.listTooLong (aF.toArray.size+f7.toArray.size))=true:=by
  rw[AX hsz,Bool.and_false]
  exact Bool.false_ne_true
 refine call_meets F.slot_list_extend ⟨_,e,rfl⟩ F.entry_list_extend (F.args_list_extend_2 _ _)
  (AutoSeq1.list_extend_list_list_0 l aF.toArray n b f7.toArray n2 HI (by rw[List.size_toArray];omega) (by omega)) ⟨e,e2,?_⟩
 refine⟨.non,_,I.lset (its':=aF++f7) hH e (by simp) (r.append r2) ?_,rfl,q⟩
 rw[List.length_append]
 omega
end
section
variable{prog:Program}{w:World}{A:Around}{E:Value→Shared→Prop}{s:Shared}
end
section
variable{X:Cx}
end
end L2
namespace Att
open PySem PySem.W PySem.Calls PyProof.Rows
theorem ints_of_wellAll{P:Params}{h:Heap}:∀(ns:List Int) (vs:List Value),WellAll P h vs (ns.map WData.int)→IntsAre vs ns:=by
 intro ns
 induction ns with
 |nil=>
  intro vs w
  rw[List.map_nil] at w
  cases w
  exact .nil
 |cons n ns ih=>
  intro vs w
  rw[List.map_cons] at w
  cases w with
  |cons a b=>
   cases a
   exact .cons _ _ (ih _ b)
theorem script_of{l:OpenLaw}{n:Nat}(hn:l.most=some n){P:Params}{h:Heap}{args:List WData}{vals:List Value}
 (CO:l.row.toRowW.claim.pre args=true)(Kw:WellAll P h vals args):
 ∃a vs ns,vals=[Value.ref a]∧args=[WData.list (ns.map WData.int)]∧h.get? a=some {cls:= .type "list",data:= .seq vs.toArray}∧IntsAre vs ns∧ns.length≤n:=by
 have NA:WShape.hasAll [] args [.list .int]=true:=(pre_splitW CO).1
 have hc:l.pre.holds [] {args:=args}=true:=(pre_splitW CO).2
 obtain⟨d,r,rfl,h1,h2⟩:=hasAllW_cons NA
 obtain rfl:=hasAllW_nil h2
 obtain⟨xs,rfl,h3⟩:=hasW_list h1
 obtain⟨ns,rfl⟩:=items_int h3
 have hlen:ns.length≤n:=by
  unfold OpenLaw.pre at hc
  have h4:(WTm.not (.lt (.lit (.int (n:Int))) (.len (.arg 0)))).holds [] {args:=[.list (ns.map .int)]}=true:=by
   have h4:=(holds_andW hc).1
   rw[hn] at h4
   exact h4
  have h5:=condW_of h4 (w_not (w_lt w_lit (w_len_list (w_arg rfl))))
  rw[List.length_map] at h5
  refine Nat.le_of_not_lt fun q=>?_
  have q':(n:Int)<((ns.length:Nat):Int):=by omega
  first
   |(rw [decide_eq_true q'] at h5;exact absurd h5 (by decide))
   |(simp at h5;omega)
 cases Kw with
 |cons w1 w2=>
  cases w2
  cases w1 with
  |list ho E3=>exact⟨_,_,ns,rfl,rfl,ho,ints_of_wellAll ns _ E3,hlen⟩
theorem post_true(l:OpenLaw)(args:List WData):l.row.toRowW.claim.post args (.bool true) args=true:=
 postW_of (r:=l.row.toRowW) (X:=(true==true))
  (show WShape.has [] (.bool true) .bool=true by first | rfl | decide | simp[WShape.has,WShape.arms,WShape.armsAll])
  (show (WTm.eq .res (.lit (.bool true))).value [] {args:=args,res:=some (.bool true),after:=args}=some (.bool (true==true)) from w_eq_bool (w_res rfl) w_lit) rfl
theorem attach_call{l:OpenLaw}{n:Nat}{q:Program}{loose:List Str}{XP:(Str→Option Value)→Heap→Prop}{YP:World→Heap→Prop}{d:DefRec}
 (hn:l.most=some n)(HB:d.params.defaults=[])
 (call:∀(w:World) (s₀ s₁:Shared) (mg mb:Str→Option Value) (fa:Addr) (o:Obj) (pm cd doc:Value) (a:Addr) (vs:List Value) (ns:List Int),
  Ground q loose [] XP w s₀ mg mb s₁.heap→YP w s₁.heap→
  s₁.heap.get? fa=some o→o.data= .func (docDef d.name d.params d.body d.scope pm cd doc)→s₁.heap.CodeRec cd d.name→mg d.name=some (.ref fa)→
  s₁.heap.get? a=some {cls:= .type "list",data:= .seq vs.toArray}→IntsAre vs ns→ns.length≤n→s₁.gens= #[]→
  codeAny (model l.prog w) callerA (.call (.ref fa) ⟨[.ref a],[]⟩) (fun r s'=>r= .ok (.ret (.bool true))∧OldK s₁.heap s'.heap∧s'.os=s₁.os∧AllBare s'.gens) s₁):
 WalkO q loose XP YP l.row.toRowW d [] (fun f vs=>PySem.call f vs):=by
 intro w s₀ s₁ mg mb G Y fa o pm cd doc dV kV ho hd vp hD Ff hg args vals as CO Nl OA Kw Oy
 obtain rfl:dV= .none:=Dflts.none hD HB
 obtain rfl:kV= .none:=Dflts.noKw hD
 obtain⟨a,vs,ns,rfl,rfl,Ar,hints,hlen⟩:=script_of hn CO Kw
 refine enter_call (codeAny_mono (call w s₀ s₁ mg mb fa o pm cd doc a vs ns G Y ho (fd_plain hd) vp Ff Ar hints hlen hg) fun r s' hq=>?_)
 obtain⟨rfl,h2,h3,h4⟩:=hq
 exact⟨.inl ⟨.bool true, .bool true,[],rfl,fun _=>rfl, .bool true,post_true l _,fun _=>⟨List.Pairwise.nil,fun _ hm=>(nomatch hm)⟩⟩,h2,h3,h4⟩
section
variable{prog:Program}{w:World}{A:Around}{E:Value→Shared→Prop}{s:Shared}{K:Frag}
def ledger(h:Heap)(L d:Addr):List (Addr×Obj):=(List.range h.objs.size).filterMap fun a=>if a=L∨a=d then none else(h.get? a).map fun o=>(a,o)
end
end Att
namespace L2
open PySem PySem.Spec PyProof.Rows
theorem qP:∀{vs:List Value}{ns:List Int},IntsAre vs ns→Vals (ns.map V.int) vs
 |_,_, .nil=> .nil
 |_,_, .cons n t h=> .cons ⟨t,rfl⟩ (qP h)
def EF(H:Hp):Prop:=∀b,H b=none∨∃o xs,H b=some (.frz o (.lst xs))
theorem t6{P:Program}{w:World}{K:W.Frag}{mg mb:Str→Option Value}{CX:vv}{k:Nat}{fa a:Addr}{fd:FuncData}{x:Str}{sp:Sp}{s₁:Shared}{vs:List Value}{ns:List Int}
 (KX:K.In s₁.heap)(LU:s₁.heap.Ns mainGlobals mg)(hb:s₁.heap.Ns builtinsNs mb)(MV:∀x:Str,x≠"__name__"→mb x=bootBuiltins x)(HH:s₁.heap.NoLimit)(hg:s₁.gens= #[])
 (ha:s₁.heap.get? a=some {cls:= .type "list",data:= .seq vs.toArray})(hi:IntsAre vs ns)(hl:ns.length≤sizeLine)(hr:Room k callerA)
 (F:∀base:Heap,K.In base→base.Ns mainGlobals mg→FnOk P w K mg base CX k fa fd [x] sp)(Hz:∀(s:Shared) (u:Value),BindsTo s fd ⟨[u],[]⟩ [(x,u)])
 (Ci:∀H:Hp,EF H→SqL K H a (ns.map V.int)→sp [.ref a] H (fun v _=>v= .bl true) fun _ _ _=>False)
 (JR:∀H e s',CX [] H s₁ (fun _ _ _=>False) e s'→False):
 codeAny (model P w) callerA (.call (.ref fa) ⟨[.ref a],[]⟩) (fun r s'=>r= .ok (.ret (.bool true))∧OldK s₁.heap s'.heap∧s'.os=s₁.os∧AllBare s'.gens) s₁:=by
 have rv:=qP hi
 have KJ:=hi.length
 have core:∀H:Hp,EF H→SqL K H a (ns.map V.int)→HOk P w H s₁.heap→(∀b,H b≠none→b=a)→(H a≠none→K.lookup a=none)→
  codeAny (model P w) callerA (.call (.ref fa) ⟨[.ref a],[]⟩) (fun r s'=>r= .ok (.ret (.bool true))∧OldK s₁.heap s'.heap∧s'.os=s₁.os∧AllBare s'.gens) s₁:=by
  intro H hO hS hok hA hK
  have w4:∀{b:Addr}{o:Obj},s₁.heap.get? b=some o→H b=none→(rA s₁.heap H).get? b=some o:=fun e n=>An e n
  have Ij:∀{b:Addr}{o:Obj}{es:Array DictEntry}{ep:Nat},s₁.heap.get? b=some o→o.data= .dict es ep→H b=none:=fun {b o es ep} e d=>by
   cases q:H b with
   |none=>rfl
   |some u=>
    have e':b=a:=hA b (by rw[q];simp)
    subst e'
    rw[ha] at e;cases e
    have d':Data.seq vs.toArray _=Data.dict es ep:=d
    cases d'
  have Jx:∀{b:Addr}{m:Str→Option Value},s₁.heap.Ns b m→(rA s₁.heap H).Ns b m:=fun {b m} ⟨o,es,ep,e,d,r⟩=>⟨o,es,ep,w4 e (Ij e d),d,r⟩
  have Lz:K.In (rA s₁.heap H):=fun b o e=>w4 (KX b o e) (by
   cases q:H b with
   |none=>rfl
   |some u=>
    have e':b=a:=hA b (by rw[q];simp)
    subst e'
    rw[hK (by rw[q];simp)] at e;cases e)
  have hM:Mod K mg (rA s₁.heap H):=⟨Lz,Jx LU,⟨mb,Jx hb,MV⟩,let ⟨mc,h1,h2⟩:=HH;⟨mc,Jx h1,h2⟩⟩
  have e0:Env0 P w K mg (rA s₁.heap H) callerA [] s₁ H:=⟨rfl,hM,fun b o e=>Dc e,Nat.le_of_eq (yF _ _),trivial,fun b hb=>absurd (show b∈([]:List Addr) from hb) (by simp),hok, .of_eq hg⟩
  refine codeAny_mono ((F _ Lz (Jx LU)).run callerA [] s₁ H ⟨[.ref a],[]⟩ [.ref a] [.ref a] _ _ hr e0 (Hz s₁ (.ref a)) (.cons rfl .nil) (Ci H hO hS)) fun r s' h=>?_
  cases r with
  |error e=>exact(JR H e s' h).elim
  |ok fl=>
   cases fl with
   |next=>exact False.elim h
   |brk=>exact False.elim h
   |cont=>exact False.elim h
   |ret u=>
    obtain⟨v,H',os,bare,un,Kj,r',q⟩:=h
    have q':v= .bl true:=q
    subst q'
    obtain rfl:u=Value.bool true:=r'
    refine⟨rfl,OldK.of_keep fun b o e=>?_,os,bare⟩
    cases q:H b with
    |none=>exact un.keep b o e q (by intro z;exact absurd (show b∈([]:List Addr) from z) (by simp)) (by simp)
    |some u=>
     rcases hO b with z | ⟨ob,xs,z⟩
     ·rw[q] at z;cases z
     ·have z2:=un.frzs b ob _ z
      obtain⟨e1,_⟩:=hok b _ z
      obtain⟨e2,_⟩:=Kj b _ z2
      rw[e] at e1;cases e1
      exact e2
 cases hk:K.lookup a with
 |some o=>
  have e:=KX a o hk
  rw[ha] at e
  cases e
  refine core (fun _=>none) (fun _=> .inl rfl) (.inr ⟨_,vs.toArray,_,hk,rfl,rfl,rfl,by rw[List.size_toArray,KJ];exact hl,by simpa using rv⟩) (fun b u z=>by have z':(none:Option HO)=some u:=z;cases z') (fun b z=>absurd rfl z) fun z=>absurd rfl z
 |none=>
  refine core (fun b=>if b=a then some (.frz {cls:= .type "list",data:= .seq vs.toArray} (.lst (ns.map V.int))) else none) (fun b=>?_) (.inl (.inr ⟨{cls:= .type "list",data:= .seq vs.toArray},if_pos rfl⟩)) (fun b u z=>?_) (fun b z=>?_) fun _=>hk
  ·by_cases hb:b=a
   ·exact .inr ⟨_,_,if_pos hb⟩
   ·exact .inl (if_neg hb)
  ·by_cases hb:b=a
   ·have z':=(if_pos hb).symm.trans z
    cases z'
    subst hb
    exact⟨ha,by rw[List.length_map];exact hl,vs,_,rv,ha⟩
   ·have z':=(if_neg hb).symm.trans z
    cases z'
  ·by_cases hb:b=a
   ·exact hb
   ·exact absurd (if_neg hb) z
abbrev Oh{K:W.Frag}{h:Heap}(_:K.In h):W.Frag:=K
theorem JE{l:PySem.W.OpenLaw}{n k:Nat}{q:Program}{loose:List Str}{XP:(Str→Option Value)→Heap→Prop}{YP:World→Heap→Prop}{d:DefRec}{K:Params→W.Frag}{CX:World→vv}{sp:World→Sp}{x:Str}
 (hn:l.most=some n)(Jn:n≤sizeLine)(HB:d.params.defaults=[])(hr:Room k callerA)
 (hY:∀(w:World) (h:Heap),YP w h→(K w.params).In h)
 (F:∀(w:World) (mg:Str→Option Value) (fa:Addr) (h:Heap),(K w.params).In h→h.Ns mainGlobals mg→mg d.name=some (.ref fa)→
  ∃fd:FuncData,(∀(s:Shared) (u:Value),BindsTo s fd ⟨[u],[]⟩ [(x,u)])∧
   ∀base:Heap,(K w.params).In base→base.Ns mainGlobals mg→FnOk l.prog w (K w.params) mg base (CX w) k fa fd [x] (sp w))
 (Ci:∀(w:World) (H:Hp) (a:Addr) (ns:List Int),ns.length≤n→EF H→SqL (K w.params) H a (ns.map V.int)→sp w [.ref a] H (fun v _=>v= .bl true) fun _ _ _=>False)
 (JR:∀(w:World) (H:Hp) (s:Shared) (e:Value) (s':Shared),CX w [] H s (fun _ _ _=>False) e s'→False):
 PySem.W.WalkO q loose XP YP l.row.toRowW d [] (fun f vs=>PySem.call f vs):=by
 refine Att.attach_call hn HB fun w s₀ s₁ mg mb fa o pm cd doc a vs ns G Y ho hd vp Ff Ar hints hlen hg=>?_
 have KX:=hY w _ Y
 obtain⟨fd,hb,hF⟩:=F w mg fa _ KX G.T.g Ff
 exact t6 KX G.T.g G.T.b G.T.builtins G.T.nolimit hg Ar hints (Nat.le_trans hlen Jn) hr hF hb (fun H hO hS=>Ci w H a ns hlen hO hS) fun H e s'=>JR w H s₁ e s'
abbrev JF:vv:=fun _ _ _ _ _ _=>False
structure Fun (K:W.Frag) (x qual:Str) (st:Stmt) (f:Addr) (fd:FuncData):Prop where
 ex:∃(oc:Value) (od:Option Addr) (kV doc pm:Value) (an:Option Addr) (bQ ct:Value) (Dl:Array (Option Value)),
  fd=PySem.W.fnOf x qual (dY st) (bx st) (ag st) .none kV doc pm an bQ ct∧K.lookup f=some ⟨oc,od, .func fd,Dl⟩∧PySem.W.codeIn K bQ qual=true
 kp:PySem.W.keepIn K (.ref f)=true
section
variable{P:Program}{w:World}{K:W.Frag}{mg:Str→Option Value}{base:Heap}
theorem Fun.ok{x qual:Str}{st:Stmt}{f:Addr}{fd:FuncData}{N ps:List Str}{k:Nat}{sp:Sp}(F:Fun K x qual st f fd)(S:FnScope N ps (ag st))(len:∀vs H Q E,sp vs H Q E→vs.length=ps.length)
 (nL:∀(bQ:Value) (A:Around) (outer:List Env) (s:Shared) (H:Hp) (vs:List V) (Q:VK) (E:XK),Room k (A.deeper (envOfC qual (ag st) s.heap.objs.size f bQ))→sp vs H Q E→
  ∃t,PSs (fk JF P w K mg base N qual (ag st) f bQ A outer s H E).nox (bx st) t∧t {nx:=fun _ H'=>Q .non H',rt:=Q} (start N vs) H):FnOk P w K mg base JF (k+1) f fd ps sp:=by
 obtain⟨oc,od,kV,doc,pm,an,bQ,ct,Dl,rfl,lk,vp⟩:=F.ex
 refine Eh lk vp S len fun A outer s H vs Q E hr Ci=>?_
 obtain⟨t,h,q⟩:=nL bQ A outer s H vs Q E hr Ci
 exact⟨t,h.nox,q⟩
theorem Fun.binds{x qual:Str}{st:Stmt}{f:Addr}{fd:FuncData}{ps:List Str}(F:Fun K x qual st f fd)
 (h:∀(kV doc pm:Value) (an:Option Addr) (bQ ct:Value) (us:List Value),us.length=ps.length→bindArgs (PySem.W.fnOf x qual (dY st) (bx st) (ag st) .none kV doc pm an bQ ct) ⟨us,[]⟩=pure (ps.zip us)):Binds K fd ps []:=by
 obtain⟨oc,od,kV,doc,pm,an,bQ,ct,Dl,rfl,lk,vp⟩:=F.ex
 exact .all (h kV doc pm an bQ ct)
theorem Ag{x qual:Str}{st:Stmt}{f:Addr}{oc:Value}{od an:Option Addr}{Dl:Array (Option Value)}{kV doc pm bQ ct:Value}(l:K.lookup f=some ⟨oc,od, .func (PySem.W.fnOf x qual (dY st) (bx st) (ag st) .none kV doc pm an bQ ct),Dl⟩)
 (c:PySem.W.codeIn K bQ qual=true)(k:PySem.W.keepIn K (.ref f)=true):Fun K x qual st f (PySem.W.fnOf x qual (dY st) (bx st) (ag st) .none kV doc pm an bQ ct):=⟨⟨oc,od,kV,doc,pm,an,bQ,ct,Dl,rfl,l,c⟩,k⟩
end
section
variable{X:Cx}
theorem pv(i:Nat){x:Str}{pos:Pos}(hN:X.N[i]? =some x:=by rfl)(hv:JM X.env.scope x:=by first | exact Or.inl rfl | exact Or.inr (Or.inl rfl) | exact Or.inr (Or.inr rfl))(hd:(x==("__debug__":Str))=false:=by decide)
 (vp:(x==("__classdict__":Str))=false:=by decide):PE X (.Name x pos) (o6 i):=Gj hN hv hd vp
end
def Same(H H':Hp):Prop:=∀b o,H b=some o→H' b=some o
theorem Same.refl(H:Hp):Same H H:=fun _ _ h=>h
theorem Same.trans{H H1 H2:Hp}(a:Same H H1)(b:Same H1 H2):Same H H2:=fun c o h=>b c o (a c o h)
theorem Same.free{H H':Hp}(e:Same H H'){l:Addr}(h:H' l=Option.none):H l=Option.none:=by
 cases q:H l with
 |none=>rfl
 |some o=>
  rw[e l o q] at h
  cases h
theorem Same.seq{K:W.Frag}{H H':Hp}{a:Addr}{xs:List V}(e:Same H H')(h:SqL K H a xs):SqL K H' a xs:=by
 rcases h with(h | ⟨o,h⟩) | h
 ·exact .inl (.inl (e _ _ h))
 ·exact .inl (.inr ⟨o,e _ _ h⟩)
 ·exact .inr h
section
variable{κ:Type}[DecidableEq κ]
def kJ(au:List (κ×V))(k:κ):Option V:=(au.find? fun kv=>decide (kv.1=k)).map (·.2)
def putK(au:List (κ×V))(k:κ)(v:V):List (κ×V):=
 if (au.any fun kv=>decide (kv.1=k))=true then au.map (fun kv=>if kv.1=k then(kv.1,v) else kv) else au++[(k,v)]
def Ee(au:List (κ×V))(k:κ):List (κ×V):=au.filter fun kv=>decide (kv.1≠k)
theorem kL{p:κ×V}{r:List (κ×V)}{k:κ}(e:p.1=k):kJ (p::r) k=some p.2:=by simp[kJ,List.find?_cons,e]
theorem kK{p:κ×V}{r:List (κ×V)}{k:κ}(e:¬p.1=k):kJ (p::r) k=kJ r k:=by simp[kJ,List.find?_cons,e]
theorem o9(k:κ):∀au:List (κ×V),(au.any fun kv=>decide (kv.1=k))=(kJ au k).isSome
 |[]=>rfl
 |p::r=>by
  rw[List.any_cons]
  by_cases e:p.1=k
  ·simp only[kL e,decide_eq_true e,Bool.true_or,Option.isSome_some]
  ·rw[kK e,decide_eq_false e,Bool.false_or];exact o9 k r
theorem d9(au:List (κ×V))(k:κ)(v:V):(putK au k v).length≤au.length+1:=by
 unfold putK
 split
 ·rw[List.length_map];omega
 ·rw[List.length_append,List.length_cons,List.length_nil];omega
theorem RelO.isSome_eq{o:Option V}{u:Option Value}(r:RelO o u):o.isSome=u.isSome:=by
 cases o with
 |none=>cases u with
  |none=>rfl
  |some _=>exact(show False from r).elim
 |some _=>cases u with
  |none=>exact(show False from r).elim
  |some _=>rfl
theorem RelO.getD{o:Option V}{u:Option Value}{d:V}{d':Value}(r:RelO o u)(rd:RelV d d'):RelV (o.getD d) (u.getD d'):=by
 cases o with
 |none=>cases u with
  |none=>exact rd
  |some _=>exact(show False from r).elim
 |some _=>cases u with
  |none=>exact(show False from r).elim
  |some _=>exact r
theorem KV.val{au:List (κ×V)}{vs:List (κ×Value)}(r:KV au vs)(k:κ):RelO (kJ au k) (valueAt vs k):=by
 unfold KV at r
 induction r with
 |nil=>exact True.intro
 | @cons p q ps qs h t ih=>
   obtain⟨h1,h2⟩:=h
   by_cases e:p.1=k
   ·have e':q.1=k:=h1.symm.trans e
    have b:valueAt (q::qs) k=some q.2:=by simp[valueAt,List.find?_cons,e']
    rw[kL e,b];exact h2
   ·have e':¬q.1=k:=fun z=>e (h1.trans z)
    have b:valueAt (q::qs) k=valueAt qs k:=by simp[valueAt,List.find?_cons,e']
    rw[kK e,b];exact ih
theorem KV.any{au:List (κ×V)}{vs:List (κ×Value)}(r:KV au vs)(k:κ):(au.any fun kv=>decide (kv.1=k))=vs.any fun kv=>decide (kv.1=k):=by
 unfold KV at r
 induction r with
 |nil=>rfl
 |cons h t ih=>rw[List.any_cons,List.any_cons,ih,h.1]
theorem KV.repl{au:List (κ×V)}{vs:List (κ×Value)}(r:KV au vs)(k:κ){y:V}{u:Value}(ry:RelV y u):
 KV (au.map fun kv=>if kv.1=k then(kv.1,y) else kv) (vs.map fun kv=>if kv.1=k then(kv.1,u) else kv):=by
 unfold KV at r⊢
 induction r with
 |nil=>exact .nil
 | @cons p q ps qs h t ih=>
   rw[List.map_cons,List.map_cons]
   refine .cons ?_ ih
   obtain⟨h1,h2⟩:=h
   by_cases e:p.1=k
   ·rw[if_pos e,if_pos (h1.symm.trans e)];exact⟨h1,ry⟩
   ·rw[if_neg e,if_neg (fun z=>e (h1.trans z))];exact⟨h1,h2⟩
theorem KV.put{au:List (κ×V)}{vs:List (κ×Value)}(r:KV au vs)(k:κ){y:V}{u:Value}(ry:RelV y u):KV (putK au k y) (stored vs k u):=by
 unfold putK stored
 rw[r.any k]
 by_cases e:(vs.any fun kv=>decide (kv.1=k))=true
 ·rw[if_pos e,if_pos e];exact r.repl k ry
 ·rw[if_neg e,if_neg e];exact Paired.snoc r ⟨rfl,ry⟩
theorem KV.drop{au:List (κ×V)}{vs:List (κ×Value)}(r:KV au vs)(k:κ):KV (Ee au k) (without vs k):=by
 unfold KV at r⊢
 unfold Ee without
 induction r with
 |nil=>exact .nil
 | @cons p q ps qs h t ih=>
   obtain⟨h1,h2⟩:=h
   rw[List.filter_cons,List.filter_cons]
   by_cases e:p.1=k
   ·have a:¬decide (p.1≠k)=true:=by simp[e]
    have b:¬decide (q.1≠k)=true:=by simp[h1.symm.trans e]
    rw[if_neg a,if_neg b];exact ih
   ·have e':¬q.1=k:=fun z=>e (h1.trans z)
    have a:decide (p.1≠k)=true:=by simp[e]
    have b:decide (q.1≠k)=true:=by simp[e']
    rw[if_pos a,if_pos b];exact .cons ⟨h1,h2⟩ ih
theorem KV.length{au:List (κ×V)}{vs:List (κ×Value)}(r:KV au vs):au.length=vs.length:=Paired.length r
end
theorem qj{P:Program}{w:World}{k:Key}{u:Value}(r:RelV (kV k) u):(bf P w).is k u=true:=by
 cases k with
 |inl i=>obtain⟨t,e⟩:=(show∃t,u=Value.int i t from r);subst e;exact uc P w i t
 |inr x=>obtain⟨t,e⟩:=(show∃t,u=Value.str x t from r);subst e;exact ud P w x t
theorem Fz{a b:Key}(e:kV a=kV b):a=b:=by
 cases a with
 |inl i=>cases b with
  |inl j=>have e':V.int i=V.int j:=e;injection e' with e';rw[e']
  |inr y=>exact nomatch (show V.int i=V.str y from e)
 |inr x=>cases b with
  |inl j=>exact nomatch (show V.str x=V.int j from e)
  |inr y=>have e':V.str x=V.str y:=e;injection e' with e';rw[e']
theorem xr:∀{a b:List Key},a.map kV=b.map kV→a=b
 |[],[],_=>rfl
 |[],_::_,e=>by simp at e
 |_::_,[],e=>by simp at e
 |x::xs,y::ys,e=>by
  rw[List.map_cons,List.map_cons] at e
  injection e with e1 e2
  rw[Fz e1,xr e2]
theorem qh{P:Program}{w:World}:∀{ks:List Key}{us:List Value},Vals (ks.map kV) us→ItemsAre (bf P w) ks us
 |[],_,r=>by rw[List.map_nil] at r;cases r;exact .nil
 |k::ks,_,r=>by
  rw[List.map_cons] at r
  cases r with
  |cons h t=>exact .cons (qj h) (qh t)
abbrev KT(H:Hp):List (List Key×V)→List (List Key×Addr×Value)→Prop:=Paired fun p q=>p.1=q.1∧H q.2.1=some (.tup (p.1.map kV))∧RelV p.2 q.2.2
theorem KT.val{H:Hp}{au:List (List Key×V)}{xs:List (List Key×Addr×Value)}(r:KT H au xs)(k:List Key):RelO (kJ au k) ((atKey xs k).map (·.2)):=by
 induction r with
 |nil=>exact True.intro
 | @cons p q ps qs h t ih=>
   obtain⟨h1,_,h2⟩:=h
   by_cases e:p.1=k
   ·have e':q.1=k:=h1.symm.trans e
    have b:atKey (q::qs) k=some q.2:=by simp[atKey,List.find?_cons,e']
    rw[kL e,b];exact h2
   ·have e':¬q.1=k:=fun z=>e (h1.trans z)
    have b:atKey (q::qs) k=atKey qs k:=by simp[atKey,List.find?_cons,e']
    rw[kK e,b];exact ih
theorem KT.repl{H:Hp}{au:List (List Key×V)}{xs:List (List Key×Addr×Value)}(r:KT H au xs)(k:List Key){y:V}{u:Value}(ry:RelV y u):
 KT H (au.map fun kv=>if kv.1=k then(kv.1,y) else kv) (xs.map (putAt k u)):=by
 induction r with
 |nil=>exact .nil
 | @cons p q ps qs h t ih=>
   rw[List.map_cons,List.map_cons]
   refine .cons ?_ ih
   obtain⟨h1,h2,h3⟩:=h
   unfold putAt
   by_cases e:p.1=k
   ·rw[if_pos e,if_pos (h1.symm.trans e)];exact⟨h1,h2,ry⟩
   ·rw[if_neg e,if_neg (fun z=>e (h1.trans z))];exact⟨h1,h2,h3⟩
theorem KT.put{H:Hp}{au:List (List Key×V)}{xs:List (List Key×Addr×Value)}(r:KT H au xs)(k:List Key){b:Addr}{y:V}{u:Value}(hb:H b=some (.tup (k.map kV)))(ry:RelV y u):
 KT H (putK au k y) (storedH xs k b u):=by
 have e:(au.any fun kv=>decide (kv.1=k))=(atKey xs k).isSome:=by
  rw[o9,(r.val k).isSome_eq,Option.isSome_map]
 unfold putK storedH
 rw[e]
 by_cases q:(atKey xs k).isSome=true
 ·rw[if_pos q,if_pos q];exact r.repl k ry
 ·rw[if_neg q,if_neg q];exact Paired.snoc r ⟨rfl,hb,ry⟩
theorem KT.keeps{H H':Hp}{au:List (List Key×V)}{xs:List (List Key×Addr×Value)}(r:KT H au xs)(ht:∀b ys,H b=some (.tup ys)→H' b=some (.tup ys)):KT H' au xs:=
 Paired.mapP r fun _ _ z=>⟨z.1,ht _ _ z.2.1,z.2.2⟩
section
variable{P:Program}{w:World}{H:Hp}{h:Heap}{a:Addr}
theorem EC{u:HO}(ok:HOk P w H h)(e:Rd H a u):ObjOk P w H h a u:=e.ok ok
theorem p4{au:List (Key×V)}(ok:HOk P w H h)(e:Rd H a (.dK au)):au.length≤sizeLine∧(a==sysModules)=false∧∃vs,KV au vs∧h.DictOf (bf P w) a vs:=
 show ObjOk P w H h a (.dK au) from EC ok e
theorem Ed{au:List (Key×V)}(ok:HOk P w H h)(e:H a=some (.dK au)):au.length≤sizeLine∧(a==sysModules)=false∧∃vs,KV au vs∧h.DictOf (bf P w) a vs:=p4 ok (.inl e)
theorem kW{ks:List Key}(ok:HOk P w H h)(e:H a=some (.tup (ks.map kV))):(tupleKind (bf P w)).is h ks a:=by
 obtain⟨_,aF,r,o,h1,h2,n,h3⟩:=(show ObjOk P w H h a (.tup (ks.map kV)) from ok a _ e)
 exact⟨o,aF.toArray,n,h1,h2,h3,by simpa using qh r⟩
theorem nv{au:List (List Key×V)}(ok:HOk P w H h)(e:Rd H a (.dT au)):au.length≤sizeLine∧(a==sysModules)=false∧
 ∃xs,KT H au xs∧h.DictOfH (tupleKind (bf P w)) a xs:=by
 obtain⟨z,y,xs,r,o,es,ep,h1,h2,h3,h4,h5⟩:=(show ObjOk P w H h a (.dT au) from EC ok e)
 refine⟨z,y,xs,r,o,es,ep,h1,h2,h3,h4,fun x hx=>?_,h5⟩
 have all:∀{l:List (List Key×V)}{m:List (List Key×Addr×Value)},KT H l m→∀x∈m,(tupleKind (bf P w)).is h x.1 x.2.1:=by
  intro l m q
  induction q with
  |nil=>intro x hx;exact nomatch hx
  | @cons p q ps qs hq t ih=>
    intro x hx
    rcases List.mem_cons.mp hx with e | hx
    ·subst e
     exact kW ok (by rw[←hq.1];exact hq.2.1)
    ·exact ih x hx
 exact all r x hx
theorem z9{au:List (List Key×V)}(ok:HOk P w H h)(e:H a=some (.dT au)):au.length≤sizeLine∧(a==sysModules)=false∧
 ∃xs,KT H au xs∧h.DictOfH (tupleKind (bf P w)) a xs:=nv ok (.inl e)
end
def pj(H:Hp)(a:Addr)(y:V)(r:Option V):Prop:=
 (∃au k,Rd H a (.dK au)∧y=kV k∧r=kJ au k)∨∃au k b,Rd H a (.dT au)∧y= .ref b∧H b=some (.tup (k.map kV))∧r=kJ au k
def DPut(H:Hp)(a:Addr)(y v:V)(H':Hp):Prop:=
 (∃au k,H a=some (.dK au)∧y=kV k∧au.length<sizeLine∧H'=upd H a (.dK (putK au k v)))∨
 ∃au k b,H a=some (.dT au)∧y= .ref b∧H b=some (.tup (k.map kV))∧au.length<sizeLine∧H'=upd H a (.dT (putK au k v))
theorem DPut.k{H:Hp}{a:Addr}{au:List (Key×V)}{k:Key}{v:V}(e:H a=some (.dK au))(hl:au.length<sizeLine):DPut H a (kV k) v (upd H a (.dK (putK au k v))):= .inl ⟨au,k,e,rfl,hl,rfl⟩
theorem DPut.t{H:Hp}{a b:Addr}{au:List (List Key×V)}{k:List Key}{v:V}(e:H a=some (.dT au))(eb:H b=some (.tup (k.map kV)))(hl:au.length<sizeLine):
 DPut H a (.ref b) v (upd H a (.dT (putK au k v))):= .inr ⟨au,k,b,e,rfl,eb,hl,rfl⟩
section
variable{X:Cx}{pins:List (Addr×Obj)}{σ:St}{H:Hp}{s:Shared}{a:Addr}{y v:V}{u r:Value}{o:Option V}{A:Around}{E:Value→Shared→Prop}
theorem Inv.big(I:Inv X pins σ H s):sysModules<s.heap.objs.size:=by
 have h:mainGlobals<s.heap.objs.size:=(I.mod.glob.keeps I.bk).lt
 exact Nat.lt_trans (by decide) h
theorem yA{Q:Value→Shared→Prop}(hu:A.units+1<cLine)(I:Inv X pins σ H s)(g:pj H a y (some v))(ry:RelV y u)(h:∀w' s',Inv X pins σ H s'→RelV v w'→Q w' s'):
 wpAny (model X.prog X.w) A (getItem (.ref a) u) Q E s:=by
 rcases g with⟨au,k,e,ey,l⟩ | ⟨au,k,b,e,ey,eb,l⟩
 ·subst ey
  obtain⟨z,hd,vs,rel,dd⟩:=p4 I.hok e
  obtain⟨w',hw,zD⟩:=RelO.some_of (v:=v) (o:=valueAt vs k) (by rw[l];exact rel.val k)
  exact wpAny_getItem_of (qj ry) dd.mapOf hw (h w' _ (I.tok _) zD)
 ·subst ey
  cases (show u=Value.ref b from ry)
  obtain⟨z,hd,xs,rel,dd⟩:=nv I.hok e
  obtain⟨w',hw,zD⟩:=RelO.some_of (v:=v) (o:=(atKey xs k).map (·.2)) (by rw[l];exact rel.val k)
  obtain⟨p,hp,HR⟩:=Option.map_eq_some_iff.mp hw
  refine wpAny_getItem_heap (tupleKind_room_in1 hu) (kW I.hok eb) dd hp ?_
  rw[HR]
  exact h w' _ (I.tok _) zD
theorem Hi{Q:Value→Shared→Prop}(hu:A.units+1<cLine)(I:Inv X pins σ H s)(g:pj H a y o)(ry:RelV y u)(h:∀s',Inv X pins σ H s'→Q (.bool o.isSome) s'):
 wpAny (model X.prog X.w) A (compareOp .In u (.ref a)) Q E s:=by
 rcases g with⟨au,k,e,ey,l⟩ | ⟨au,k,b,e,ey,eb,l⟩
 ·subst ey
  obtain⟨z,hd,vs,rel,dd⟩:=p4 I.hok e
  refine wpAny_in_of (qj ry) hd dd.mapOf ?_
  rw[←(rel.val k).isSome_eq,←l]
  exact h _ (I.tok _)
 ·subst ey
  cases (show u=Value.ref b from ry)
  obtain⟨z,hd,xs,rel,dd⟩:=nv I.hok e
  refine wpAny_in_heap (tupleKind_room_in1 hu) (kW I.hok eb) hd dd ?_
  have q:=(rel.val k).isSome_eq
  rw[Option.isSome_map] at q
  rw[←q,←l]
  exact h _ (I.tok _)
theorem Cz{Q:Value→Shared→Prop}(hu:A.units+1<cLine)(I:Inv X pins σ H s)(g:pj H a y o)(ry:RelV y u)(h:∀s',Inv X pins σ H s'→Q (.bool (!o.isSome)) s'):
 wpAny (model X.prog X.w) A (compareOp .NotIn u (.ref a)) Q E s:=by
 rcases g with⟨au,k,e,ey,l⟩ | ⟨au,k,b,e,ey,eb,l⟩
 ·subst ey
  obtain⟨z,hd,vs,rel,dd⟩:=p4 I.hok e
  refine wpAny_notIn_of (qj ry) hd dd.mapOf ?_
  rw[←(rel.val k).isSome_eq,←l]
  exact h _ (I.tok _)
 ·subst ey
  cases (show u=Value.ref b from ry)
  obtain⟨z,hd,xs,rel,dd⟩:=nv I.hok e
  refine wpAny_notIn_heap (tupleKind_room_in1 hu) (kW I.hok eb) hd dd ?_
  have q:=(rel.val k).isSome_eq
  rw[Option.isSome_map] at q
  rw[←q,←l]
  exact h _ (I.tok _)
theorem jT{h':Heap}{t':Nat}{ob:HO}(I:Inv X pins σ H s)(mu:G6 (H a))(hs:Heap.SameBut a s.heap h')(he:∃q,h'.get? a=some q)(new:ObjOk X.prog X.w (upd H a ob) h' a ob):
 Inv X pins σ (upd H a ob) {s with heap:=h',toks:=t'}:=
 I.write (x:=a) (e:=a) mu (.inl rfl) (fun b q hb z=>(hs.2 b hb).trans z) he new
theorem z8{P:Program}{w:World}{H':Hp}{h':Heap}{au:List (Key×V)}{vs:List (Key×Value)}(z:au.length≤sizeLine)(hd:(a==sysModules)=false)(rel:KV au vs)(dd:h'.DictOf (bf P w) a vs):
 ObjOk P w H' h' a (.dK au):=⟨z,hd,vs,rel,dd⟩
theorem yB{H':Hp}{Q:Unit→Shared→Prop}(hu:A.units+1<cLine)(I:Inv X pins σ H s)(g:DPut H a y v H')(ry:RelV y u)(rv:RelV v r)(h:∀s',Inv X pins σ H' s'→Q () s'):
 wpAny (model X.prog X.w) A (setItem (.ref a) u r) Q E s:=by
 rcases g with⟨au,k,e,ey,l,eH⟩ | ⟨au,k,b,e,ey,eb,l,eH⟩
 ·subst ey eH
  obtain⟨z,hd,vs,rel,dd⟩:=Ed I.hok e
  have hz:vs.length≤sizeLine:=by rw[←rel.length];exact z
  have hl:(putK au k v).length≤sizeLine:=by have:=d9 au k v;omega
  refine wpAny_setItem_pairs (hsz:=hz) (qj ry) dd fun h' z5 hs=>h _ ?_
  have he:∃q,h'.get? a=some q:=let ⟨q,_,_,hq,_⟩:=z5;⟨q,hq⟩
  exact jT I (by rw[e];exact True.intro) hs he (z8 hl hd (rel.put k rv) z5)
 ·subst ey eH
  cases (show u=Value.ref b from ry)
  obtain⟨z,hd,xs,rel,dd⟩:=z9 I.hok e
  have hz:xs.length≤sizeLine:=by rw[←Paired.length rel];exact z
  have hl:(putK au k v).length≤sizeLine:=by have:=d9 au k v;omega
  refine wpAny_setItem_heap (hsz:=hz) (tupleKind_room_in1 hu) (kW I.hok eb) dd fun h' z5 hs=>h _ ?_
  obtain⟨q,es,ep,hq,h2,h3,h4,_,h5⟩:=z5
  refine jT I (by rw[e];exact True.intro) hs ⟨q,hq⟩ ⟨hl,hd,_,(rel.put k eb rv).keeps fun c ys ec=>?_,q,es,ep,hq,h2,h3,h4,h5⟩
  rw[ax (AN ec e (fun z=>nomatch z))]
  exact ec
end
section
variable{X:Cx}{pins:List (Addr×Obj)}{σ:St}{H:Hp}{s:Shared}{a:Addr}{au:List (Key×V)}{k:Key}{u:Value}{A:Around}{E:Value→Shared→Prop}
end
def EE(i:Expr):Prop:=∀ov iv,subscripted i false ov iv=operate [ov,iv] (getItem ov iv)
theorem DZ{prog:Program}{w:World}{A:Around}{E:Value→Shared→Prop}{s:Shared}{env:Env}{value slice:Expr}{pos:Pos}{T id:String}{Q:Value→Shared→Prop}
 (hl:typeLookup (.type T) "__getitem__"=pure (some (.builtin id)))(hs:EE slice)
 (h:wpAny (model prog w) A (eval value env) (fun o s₁=>wpAny (model prog w) A (eval slice env) (fun i s₂=>s₂.TypeIs o T∧wpAny (model prog w) A (getItem o i) Q E s₂) E s₁) E s):
 wpAny (model prog w) A (eval (.Subscript value slice pos) env) Q E s:=by
 refine Subscript_ (wpAny_mono h (fun o s₁ h₁=>wpAny_mono h₁ (fun i s₂ h₂=>?_) fun _ _ x=>x) fun _ _ x=>x)
 obtain⟨hT,h₂⟩:=h₂
 unfold subscriptTail
 refine wpAny_bind ?_
 rw[getitemInPython_of_ne hT.not_modules]
 refine wpAny_bind (wpAny_specialOf hT hl ?_)
 have fin:wpAny (model prog w) A (subscripted slice false o i) (fun r s₃=>wpAny (model prog w) A (letTemporaryGo value o r>>=fun _=>pure r) Q E s₃) E s₂:=by
  rw[hs o i]
  exact wpAny_operating (wpAny_mono h₂ (fun r s₃ h₃=>wpAny_bind (wpAny_letTemporaryGo (wpAny_pure h₃))) fun _ _ x=>x)
 first
  |exact wpAny_pure (wpAny_bind fin)
  |exact wpAny_bind (wpAny_pure (wpAny_bind fin))
  |exact wpAny_bind fin
theorem tE{X:Cx}{pins:List (Addr×Obj)}{σ:St}{H:Hp}{s:Shared}{a:Addr}{y:V}{o:Option V}(I:Inv X pins σ H s)(g:pj H a y o):s.TypeIs (.ref a) "dict":=by
 rcases g with⟨au,k,e,_,_⟩ | ⟨au,k,b,e,_,_,_⟩
 ·obtain⟨_,_,vs,_,dd⟩:=p4 I.hok e
  exact dd.typeIs
 ·obtain⟨_,_,xs,_,dd⟩:=nv I.hok e
  exact dd.typeIs
def I9(td ty:TE):TE:=fun σ H Q=>td σ H fun x H1=>ty σ H1 fun y H2=>∃a v,x= .ref a∧pj H2 a y (some v)∧Q v H2
def K6(ty td:TE):TE:=fun σ H Q=>ty σ H fun y H1=>td σ H1 fun x H2=>∃a o,x= .ref a∧pj H2 a y o∧Q (.bl o.isSome) H2
def IW(td ty tv:TE):TS:=fun D σ H=>tv σ H fun v H1=>td σ H1 fun x H2=>ty σ H2 fun y H3=>∃a H4,x= .ref a∧DPut H3 a y v H4∧D.nx σ H4
section
variable{X:Cx}{o i e value:Expr}{pos pos' Lf:Pos}{td ty tv:TE}
theorem Dw(hu:X.A.units+1<cLine)(ho:PE X o td)(hi:PE X i ty)(hs:EE i):PE X (.Subscript o i pos) (I9 td ty):=by
 intro pins s σ H Q I h
 refine DZ PySem.F.slot_dict_getitem.lookup hs (cg (ho pins s σ H _ I h) fun u s1 ⟨x,H1,I1,rx,q1⟩=>cg (hi pins s1 σ H1 _ I1 q1) fun iv s2 ⟨y,H2,I2,ry,a,v,ex,g,q2⟩=>?_)
 subst ex
 obtain rfl:u=Value.ref a:=rx
 exact⟨tE I2 g,yA hu I2 g ry fun w' s3 I3 zD=>⟨v,H2,I3,zD,q2⟩⟩
theorem FW(hu:X.A.units+1<cLine)(hi:PE X i ty)(ho:PE X o td):PC X .In i o (K6 ty td):=by
 intro pins s σ H Q I h
 refine cg (hi pins s σ H _ I h) fun iv s1 ⟨y,H1,I1,ry,q1⟩=>cg (ho pins s1 σ H1 _ I1 q1) fun u s2 ⟨x,H2,I2,rx,a,ov,ex,g,q2⟩=>?_
 subst ex
 obtain rfl:u=Value.ref a:=rx
 exact Hi hu I2 g ry fun s3 I3=>⟨.bl ov.isSome,H2,I3,rfl,q2⟩
theorem DB(hu:X.A.units+1<cLine)(ho:PE X o td)(hi:PE X i ty)(hv:PE X value tv)(hs:swapsWith value (some (.Subscript o i pos')) pos.line X.env=pure false):
 PS X (.Assign [.Subscript o i pos'] value pos) (IW td ty tv):=by
 intro pins s σ H D I h
 refine wpAny_Assign_Subscript (cg (hv pins s σ H _ I h) fun r s1 ⟨v,H1,I1,rv,q1⟩=>cg (ho pins s1 σ H1 _ I1 q1) fun u s2 ⟨x,H2,I2,rx,q2⟩=>cg (hi pins s2 σ H2 _ I2 q2) fun iv s3 ⟨y,H3,I3,ry,a,H4,ex,g,q3⟩=>?_) hs
 subst ex
 obtain rfl:u=Value.ref a:=rx
 exact yB hu I3 g ry rv fun s4 I4=>⟨σ,H4,I4,q3⟩
end
theorem z7{P:Program}{w:World}{H:Hp}(h:Heap)(hb:sysModules<h.objs.size):ObjOk P w H (h.push {cls:= .type "dict",data:= .dict #[]}) h.objs.size (.dK []):=
 ⟨Nat.zero_le _,beq_eq_false_iff_ne.mpr (Ne.symm (Nat.ne_of_lt hb)),[], .nil,Heap.DictOf.new h⟩
theorem tH{P:Program}{w:World}{H:Hp}(h:Heap)(hb:sysModules<h.objs.size):ObjOk P w H (h.push {cls:= .type "dict",data:= .dict #[]}) h.objs.size (.dT []):=
 ⟨Nat.zero_le _,beq_eq_false_iff_ne.mpr (Ne.symm (Nat.ne_of_lt hb)),[], .nil,_,#[],0,Heap.get?_push_size _ rfl,⟨rfl,rfl,rfl⟩,rfl,rfl,List.nodup_nil⟩
def GJ:TE:=fun _ H Q=>∀p,H p=none→Q (.ref p) (upd H p (.dT []))
section
variable{X:Cx}{pos:Pos}
theorem Bm:PE X (.Dict [] [] pos) GJ:=fun pins s σ H Q I h=>
 wpAny_Dict_empty ⟨.ref s.heap.objs.size,_,I.laid (a:=s.heap.objs.size) (o:= .dT []) (t':=s.toks) (fun _ _ q=>Heap.get?_push_of_some _ q) (Nat.le_refl _) (tH s.heap I.big),rfl,h _ (I.hok.fresh (Nat.le_refl _))⟩
end
def BY:List (TE×TE)→St→Hp→(List (V×V)→Hp→Prop)→Prop
 |[],_,H,Q=>Q [] H
 |(tk,tv)::r,σ,H,Q=>tk σ H fun x H1=>tv σ H1 fun y H2=>BY r σ H2 fun ps H3=>Q ((x,y)::ps) H3
abbrev VV:List (V×V)→List (Value×Value)→Prop:=Paired fun p q=>RelV p.1 q.1∧RelV p.2 q.2
def JJ(X:Cx)(pos:Pos)(keys:List (Option Expr))(values:List Expr)(JC:List (TE×TE)):Prop:=
 ∀(pins:List (Addr×Obj)) (s:Shared) (σ:St) (H:Hp) (Q:List (V×V)→Hp→Prop),Inv X pins σ H s→BY JC σ H Q→
  wpAny (model X.prog X.w) X.A (evalPairs (pairTrees keys values X.env pos)) (fun vs s'=>∃ps H',Inv X pins σ H' s'∧VV ps vs∧Q ps H') X.xe s
theorem Dz{X:Cx}{pos:Pos}:JJ X pos [] [] []:=fun pins s σ H Q I h=>pairTrees_nil_walk ⟨[],H,I, .nil,h⟩
theorem Bp{X:Cx}{pos:Pos}{k v:Expr}{ks:List (Option Expr)}{vs:List Expr}{tk tv:TE}{JC:List (TE×TE)}(hk:PE X k tk)(hv:PE X v tv)(hr:JJ X pos ks vs JC):
 JJ X pos (some k::ks) (v::vs) ((tk,tv)::JC):=fun pins s σ H Q I h=>
 pairTrees_cons_walk (cg (hk pins s σ H _ I h) fun u s1 ⟨x,H1,I1,rx,q1⟩=>cg (hv pins s1 σ H1 _ I1 q1) fun w2 s2 ⟨y,H2,I2,ry,q2⟩=>
  cg (hr pins s2 σ H2 _ I2 q2) fun ws s3 ⟨ps,H3,I3,rel,q3⟩=>⟨(x,y)::ps,H3,I3, .cons ⟨rx,ry⟩ rel,q3⟩)
structure M1 (X:Cx) (o:Expr) (m:Str) (apos:Pos) (e:Expr) (bj:Pos):Prop where
 base:attributeBase o m X.env (eval o X.env)=eval o X.env
 few:((backTo bj (starEach [e] X.env)).all (fun x=>!x.1)&&(backToKw bj (keywordEach [] X.env)).all (fun x=>x.1.isSome)
  &&decide (([e]:List Expr).length+([]:List Keyword).length+(if ([]:List Keyword).isEmpty then 0 else 1)<30))=true
 line:(apos.endLine==bj.line)=true
 trees:backTo bj (starEach [e] X.env)=[(false,eval e X.env)]
structure M2 (X:Cx) (o:Expr) (m:Str) (apos:Pos) (e f:Expr) (bj:Pos):Prop where
 base:attributeBase o m X.env (eval o X.env)=eval o X.env
 few:((backTo bj (starEach [e,f] X.env)).all (fun x=>!x.1)&&(backToKw bj (keywordEach [] X.env)).all (fun x=>x.1.isSome)
  &&decide (([e,f]:List Expr).length+([]:List Keyword).length+(if ([]:List Keyword).isEmpty then 0 else 1)<30))=true
 line:(apos.endLine==bj.line)=true
 trees:backTo bj (starEach [e,f] X.env)=[(false,eval e X.env),(false,eval f X.env)]
def Lh(H:Hp)(a:Addr):Prop:=(∃au,Rd H a (.dK au))∨∃au,Rd H a (.dT au)
theorem Fq{X:Cx}{pins:List (Addr×Obj)}{σ:St}{H:Hp}{s:Shared}{a:Addr}(I:Inv X pins σ H s)(d:Lh H a):
 s.TypeIs (.ref a) "dict"∧(∀b,Value.ref a= .ref b→∃ob,s.heap.get? b=some ob∧ob.dict=none)∧(a==sysModules)=false:=by
 rcases d with⟨au,e⟩ | ⟨au,e⟩
 ·obtain⟨_,hd,vs,_,dd⟩:=p4 I.hok e
  refine⟨dd.typeIs,fun b q=>?_,hd⟩
  cases q
  obtain⟨ob,_,_,h1,h2,_⟩:=dd
  exact⟨ob,h1,h2.2.1⟩
 ·obtain⟨_,hd,xs,_,dd⟩:=nv I.hok e
  refine⟨dd.typeIs,fun b q=>?_,hd⟩
  cases q
  obtain⟨ob,_,_,h1,h2,_⟩:=dd
  exact⟨ob,h1,h2.2.1⟩
section
variable{X:Cx}{pins:List (Addr×Obj)}{σ:St}{H:Hp}{s:Shared}{a:Addr}{y d:V}{u r:Value}{o:Option V}{A:Around}{E:Value→Shared→Prop}
end
section
variable{X:Cx}{o e f:Expr}{apos bj:Pos}{td ty tx:TE}
end
section
variable{X:Cx}{pins:List (Addr×Obj)}{σ:St}{H:Hp}{s:Shared}{a:Addr}{au:List (Key×V)}{A:Around}{E:Value→Shared→Prop}
end
section
variable{X:Cx}{pins:List (Addr×Obj)}{σ:St}{H:Hp}{s:Shared}{a:Addr}{y:V}{u:Value}{A:Around}{E:Value→Shared→Prop}
end
end L2
namespace L3
open PySem PySem.Spec L2
open PyProof.Rows hiding St
inductive Rs (α:Type) where
 |ok (a:α) | ex (n:Nat)
def M(α:Type):=Option (Rs α)
def M.ret{α:Type}(a:α):M α:=some (.ok a)
def M.bind{α β:Type}(m:M α)(k:α→M β):M β:=match m with
 |none=>none
 |some (.ex n)=>some (.ex n)
 |some (.ok a)=>k a
def M.stuck{α:Type}:M α:=none
def M.raise{α:Type}(n:Nat):M α:=some (.ex n)
instance:Monad M where
 pure:=M.ret
 bind:=M.bind
@[simp] theorem ao{α β:Type}(a:α)(k:α→M β):(M.ret a>>=k)=k a:=rfl
@[simp] theorem EI{α β:Type}(a:α)(k:α→M β):((pure a:M α)>>=k)=k a:=rfl
@[simp] theorem EJ{α β:Type}(n:Nat)(k:α→M β):(M.raise n>>=k)=M.raise n:=rfl
@[simp] theorem EK{α β:Type}(k:α→M β):((M.stuck:M α)>>=k)=M.stuck:=rfl
theorem M.cs{α:Type}(m:M α):m=M.stuck∨(∃n,m=M.raise n)∨∃a,m=M.ret a:=by
 match m with
 |none=>exact .inl rfl
 |some (.ex n)=>exact .inr (.inl ⟨n,rfl⟩)
 |some (.ok a)=>exact .inr (.inr ⟨a,rfl⟩)
theorem fE{α:Type}{a b:α}(h:M.ret a=M.ret b):a=b:=by
 have h:some (Rs.ok a)=some (Rs.ok b):=h
 cases h
 rfl
theorem iN{α:Type}{a:α}(h:M.stuck=M.ret a):False:=by
 have h:none=some (Rs.ok a):=h
 cases h
theorem BD{α:Type}{n:Nat}{a:α}(h:M.raise n=M.ret a):False:=by
 have h:some (Rs.ex n)=some (Rs.ok a):=h
 cases h
theorem gu{α β:Type}{m:M α}{k:α→M β}{r:β}(h:(m>>=k)=M.ret r):∃a,m=M.ret a∧k a=M.ret r:=by
 rcases m.cs with e | ⟨n,e⟩ | ⟨a,e⟩
 ·subst e;exact(iN h).elim
 ·subst e;exact(BD h).elim
 ·subst e;exact⟨a,rfl,h⟩
def G3(h:Heap)(ea D:Addr):Prop:=∃ox,h.get? ea=some ox∧ox.cls= .ref D
def Mr(ea D:Addr):HO:= .ext fun h=>G3 h ea D
inductive D where
 |non | bl (b:Bool) | int (i:Int) | str (x:Str) | raw (v:V) | exc (C:Addr) | scr (l:List Int) | tup (l:List D) | lst (l:List D)
 |dct (ks:List (List Key)) (l:List D) | dci (ks:List Key) (l:List D)
instance:Inhabited D:=⟨.non⟩
def lim:Nat:=4096
theorem e9:lim<sizeLine:=by rw[sizeLine_eq];decide
mutual
def Den(K:W.Frag)(F:Hp):D→V→Prop
 | .non,v=>v= .non
 | .bl b,v=>v= .bl b
 | .int i,v=>v= .int i
 | .str x,v=>v= .str x∧x.length≤lim
 | .raw u,v=>v=u
 | .exc C,v=>∃ea,v= .ref ea∧F ea=some (Mr ea C)
 | .scr ns,v=>∃a,v= .ref a∧SqL K F a (ns.map V.int)∧ns.length≤lim
 | .tup ds,v=>∃a vs,v= .ref a∧F a=some (.tup vs)∧DenL K F ds vs∧ds.length≤lim
 | .lst ds,v=>∃a vs,v= .ref a∧F a=some (.lst vs)∧DenL K F ds vs∧ds.length≤lim
 | .dct ks ds,v=>∃a ob vs,v= .ref a∧F a=some (.frz ob (.dT (ks.zip vs)))∧DenL K F ds vs∧ks.length=ds.length∧ds.length≤lim
 | .dci ks ds,v=>∃a ob vs,v= .ref a∧F a=some (.frz ob (.dK (ks.zip vs)))∧DenL K F ds vs∧ks.length=ds.length∧ds.length≤lim
def DenL(K:W.Frag)(F:Hp):List D→List V→Prop
 |[],vs=>vs=[]
 |d::ds,vs=>∃v r,vs=v::r∧Den K F d v∧DenL K F ds r
end
theorem Same.rd{H H':Hp}{a:Addr}{u:HO}(e:Same H H')(h:Rd H a u):Rd H' a u:=by
 rcases h with h | ⟨o,h⟩
 ·exact .inl (e _ _ h)
 ·exact .inr ⟨o,e _ _ h⟩
theorem Same.tup{K:W.Frag}{H H':Hp}{a:Addr}{xs:List V}(e:Same H H')(h:SqT K H a xs):SqT K H' a xs:=by
 rcases h with h | h
 ·exact .inl (Same.rd e h)
 ·exact .inr h
section
variable{K:W.Frag}{F F':Hp}
mutual
theorem Den.mono(e:Same F F'):∀{d:D}{v:V},Den K F d v→Den K F' d v
 | .non,_,h=>h
 | .bl _,_,h=>h
 | .int _,_,h=>h
 | .str _,_,h=>h
 | .raw _,_,h=>h
 | .exc _,_,⟨a,h1,h2⟩=>⟨a,h1,e _ _ h2⟩
 | .scr _,_,⟨a,h1,h2,h3⟩=>⟨a,h1,Same.seq e h2,h3⟩
 | .tup _,_,⟨a,vs,h1,h2,h3,h4⟩=>⟨a,vs,h1,e _ _ h2,DenL.mono e h3,h4⟩
 | .lst _,_,⟨a,vs,h1,h2,h3,h4⟩=>⟨a,vs,h1,e _ _ h2,DenL.mono e h3,h4⟩
 | .dct _ _,_,⟨a,ob,vs,h1,h2,h3,h4⟩=>⟨a,ob,vs,h1,e _ _ h2,DenL.mono e h3,h4⟩
 | .dci _ _,_,⟨a,ob,vs,h1,h2,h3,h4⟩=>⟨a,ob,vs,h1,e _ _ h2,DenL.mono e h3,h4⟩
theorem DenL.mono(e:Same F F'):∀{ds:List D}{vs:List V},DenL K F ds vs→DenL K F' ds vs
 |[],_,h=>h
 |_::_,_,⟨v,r,h1,h2,h3⟩=>⟨v,r,h1,Den.mono e h2,DenL.mono e h3⟩
end
theorem DenL.nil:DenL K F [] []:=rfl
theorem DenL.cons{d:D}{v:V}{ds:List D}{vs:List V}(h:Den K F d v)(r:DenL K F ds vs):DenL K F (d::ds) (v::vs):=⟨v,vs,rfl,h,r⟩
theorem DenL.len:∀{ds:List D}{vs:List V},DenL K F ds vs→ds.length=vs.length
 |[],_,h=>by cases (show _=_ from h);rfl
 |_::ds,_,⟨v,r,h1,_,h3⟩=>by subst h1;rw[List.length_cons,List.length_cons,DenL.len h3]
theorem DenL.get:∀{ds:List D}{vs:List V}{i:Nat}{d:D},DenL K F ds vs→ds[i]? =some d→∃v,vs[i]? =some v∧Den K F d v
 |[],_,_,_,_,e=>by simp at e
 |d::ds,_,0,_,⟨v,r,h1,h2,h3⟩,e=>by subst h1;simp at e;subst e;exact⟨v,rfl,h2⟩
 |d::ds,_,i+1,_,⟨v,r,h1,h2,h3⟩,e=>by
  subst h1
  obtain⟨w,e1,e2⟩:=DenL.get (i:=i) h3 (by simpa using e)
  exact⟨w,by simpa using e1,e2⟩
theorem DenL.at:∀{ds:List D}{vs:List V}{i:Nat}{v:V},DenL K F ds vs→vs[i]? =some v→∃d,ds[i]? =some d∧Den K F d v
 |[],_,_,_,h,e=>by cases (show _=_ from h);simp at e
 |d::ds,_,0,_,⟨v,r,h1,h2,h3⟩,e=>by subst h1;simp at e;subst e;exact⟨d,rfl,h2⟩
 |d::ds,_,i+1,_,⟨v,r,h1,h2,h3⟩,e=>by
  subst h1
  obtain⟨w,e1,e2⟩:=DenL.at (i:=i) h3 (by simpa using e)
  exact⟨w,by simpa using e1,e2⟩
theorem DenL.append:∀{ds es:List D}{vs ws:List V},DenL K F ds vs→DenL K F es ws→DenL K F (ds++es) (vs++ws)
 |[],_,_,_,h,h'=>by cases (show _=_ from h);exact h'
 |d::ds,_,_,_,⟨v,r,h1,h2,h3⟩,h'=>by subst h1;exact⟨v,_,rfl,h2,DenL.append h3 h'⟩
theorem DenL.take:∀{ds:List D}{vs:List V}(n:Nat),DenL K F ds vs→DenL K F (ds.take n) (vs.take n)
 |_,_,0,_=>by simp[List.take];rfl
 |[],_,_+1,h=>by cases (show _=_ from h);rfl
 |d::ds,_,n+1,⟨v,r,h1,h2,h3⟩=>by subst h1;exact⟨v,_,rfl,h2,DenL.take n h3⟩
theorem DenL.drop:∀{ds:List D}{vs:List V}(n:Nat),DenL K F ds vs→DenL K F (ds.drop n) (vs.drop n)
 |_,_,0,h=>by simpa using h
 |[],_,_+1,h=>by cases (show _=_ from h);rfl
 |d::ds,_,n+1,⟨v,r,h1,h2,h3⟩=>by subst h1;exact DenL.drop n h3
theorem DenL.ints(ns:List Int):DenL K F (ns.map D.int) (ns.map V.int):=by
 induction ns with
 |nil=>rfl
 |cons n ns ih=>exact .cons rfl ih
end
structure Ext (F H F' H':Hp):Prop where
 hh:Same H H'
 ff:Same F F'
 fh:Same F' H'
 new:∀a,H a≠none→F' a=F a∨∃ts,H a=some (.tup ts)
theorem Ext.old{F H F' H':Hp}(e:Ext F H F' H'){a:Addr}{o:HO}(h:H a=some o)(hn:∀ts,o≠ .tup ts):F' a=F a:=by
 rcases e.new a (by rw[h];exact fun z=>nomatch z) with q | ⟨ts,q⟩
 ·exact q
 ·rw[h] at q;cases q;exact absurd rfl (hn ts)
theorem Ext.refl{F H:Hp}(h:Same F H):Ext F H F H:=⟨Same.refl _,Same.refl _,h,fun _ _=> .inl rfl⟩
theorem Ext.trans{F H F' H' F'' H'':Hp}(a:Ext F H F' H')(b:Ext F' H' F'' H''):Ext F H F'' H'':=
 ⟨a.hh.trans b.hh,a.ff.trans b.ff,b.fh,fun c hc=>by
  have:H' c≠none:=by
   cases q:H c with
   |none=>exact absurd q hc
   |some o=>rw[a.hh c o q];exact fun z=>nomatch z
  rcases a.new c hc with p | p
  ·rcases b.new c this with q | ⟨ts,q⟩
   ·exact .inl (q.trans p)
   ·cases z:H c with
    |none=>exact absurd z hc
    |some o=>
     rw[a.hh c o z] at q
     exact .inr ⟨ts,q⟩
  ·exact .inr p⟩
theorem Ext.lay{F H:Hp}{a:Addr}{o:HO}(h:Same F H)(n:H a=none):Ext F H (upd F a o) (upd H a o):=by
 have nf:F a=none:=Same.free h n
 refine⟨fun b u e=>?_,fun b u e=>?_,fun b u e=>?_,fun b hb=>?_⟩
 ·rw[ax (bY e n)];exact e
 ·rw[ax (bY e nf)];exact e
 ·by_cases q:b=a
  ·subst q;rw[aD] at e⊢;exact e
  ·rw[ax q] at e⊢;exact h b u e
 ·exact .inl (ax fun z=>hb (by rw[z];exact n))
theorem Ext.free{F H:Hp}{a:Addr}{o:HO}(h:Same F H)(n:H a=none):Ext F H F (upd H a o):=
 ⟨fun b u e=>by rw[ax (bY e n)];exact e,Same.refl _,fun b u e=>by rw[ax (bY (h b u e) n)];exact h b u e,fun _ _=> .inl rfl⟩
theorem Ext.tup{F H:Hp}{a:Addr}{ts:List V}(h:Same F H)(e:H a=some (.tup ts)):Ext F H (upd F a (.tup ts)) H:=by
 refine⟨Same.refl _,fun b u q=>?_,fun b u q=>?_,fun b hb=>?_⟩
 ·by_cases z:b=a
  ·subst z;rw[aD,←e];exact h b u q
  ·rw[ax z];exact q
 ·by_cases z:b=a
  ·subst z;rw[aD] at q;rw[e];exact q
  ·rw[ax z] at q;exact h b u q
 ·by_cases z:b=a
  ·subst z;exact .inr ⟨ts,e⟩
  ·exact .inl (ax z)
def WP(K:W.Frag)(Xw:Nat→Hp→Prop)(F H:Hp)(m:M D)(Q:VK):Prop:=
 match m with
 |none=>False
 |some (.ok d)=>∀v H' F',Ext F H F' H'→Den K F' d v→Q v H'
 |some (.ex n)=>∀F' H',Ext F H F' H'→Xw n H'
def WPL(K:W.Frag)(Xw:Nat→Hp→Prop)(F H:Hp)(m:M (List D))(Q:List V→Hp→Prop):Prop:=
 match m with
 |none=>False
 |some (.ok ds)=>∀vs H' F',Ext F H F' H'→DenL K F' ds vs→Q vs H'
 |some (.ex n)=>∀F' H',Ext F H F' H'→Xw n H'
def WPB(Xw:Nat→Hp→Prop)(F H:Hp)(m:M Bool)(Q:Bool→Hp→Prop):Prop:=
 match m with
 |none=>False
 |some (.ok b)=>∀H' F',Ext F H F' H'→Q b H'
 |some (.ex n)=>∀F' H',Ext F H F' H'→Xw n H'
section
variable{K:W.Frag}{Xw:Nat→Hp→Prop}{F F' H H':Hp}{Q:VK}
theorem WP.ext{m:M D}(e:Ext F H F' H')(h:WP K Xw F H m Q):WP K Xw F' H' m Q:=by
 match m,h with
 |none,h=>exact h
 |some (.ok d),h=>exact fun v H2 F2 e2 q=>h v H2 F2 (e.trans e2) q
 |some (.ex n),h=>exact fun F2 H2 e2=>h F2 H2 (e.trans e2)
theorem WPL.ext{m:M (List D)}{Q:List V→Hp→Prop}(e:Ext F H F' H')(h:WPL K Xw F H m Q):WPL K Xw F' H' m Q:=by
 match m,h with
 |none,h=>exact h
 |some (.ok d),h=>exact fun v H2 F2 e2 q=>h v H2 F2 (e.trans e2) q
 |some (.ex n),h=>exact fun F2 H2 e2=>h F2 H2 (e.trans e2)
theorem WPB.ext{m:M Bool}{Q:Bool→Hp→Prop}(e:Ext F H F' H')(h:WPB Xw F H m Q):WPB Xw F' H' m Q:=by
 match m,h with
 |none,h=>exact h
 |some (.ok d),h=>exact fun H2 F2 e2=>h H2 F2 (e.trans e2)
 |some (.ex n),h=>exact fun F2 H2 e2=>h F2 H2 (e.trans e2)
theorem WP.fin{d:D}{v:V}(h:WP K Xw F H (M.ret d) Q)(e:Ext F H F' H')(q:Den K F' d v):Q v H':=h v H' F' e q
theorem WP.now{d:D}{v:V}(h:WP K Xw F H (M.ret d) Q)(s:Same F H)(q:Den K F d v):Q v H:=h v H F (Ext.refl s) q
theorem WP.bind{m:M D}{k:D→M D}(h:WP K Xw F H (m>>=k) Q):WP K Xw F H m fun v H1=>∃F1 d,Ext F H F1 H1∧Den K F1 d v∧WP K Xw F1 H1 (k d) Q:=by
 match m,h with
 |none,h=>exact h
 |some (.ok d),h=>exact fun v H2 F2 e2 q=>⟨F2,d,e2,q,WP.ext e2 (show WP K Xw F H (k d) Q from h)⟩
 |some (.ex n),h=>exact h
theorem WP.bindL{m:M (List D)}{k:List D→M D}(h:WP K Xw F H (m>>=k) Q):WPL K Xw F H m fun vs H1=>∃F1 ds,Ext F H F1 H1∧DenL K F1 ds vs∧WP K Xw F1 H1 (k ds) Q:=by
 match m,h with
 |none,h=>exact h
 |some (.ok d),h=>exact fun v H2 F2 e2 q=>⟨F2,d,e2,q,WP.ext e2 (show WP K Xw F H (k d) Q from h)⟩
 |some (.ex n),h=>exact h
theorem WP.bindB{m:M Bool}{k:Bool→M D}(h:WP K Xw F H (m>>=k) Q):WPB Xw F H m fun b H1=>∃F1,Ext F H F1 H1∧WP K Xw F1 H1 (k b) Q:=by
 match m,h with
 |none,h=>exact h
 |some (.ok d),h=>exact fun H2 F2 e2=>⟨F2,e2,WP.ext e2 (show WP K Xw F H (k d) Q from h)⟩
 |some (.ex n),h=>exact h
theorem WPB.bind{m:M D}{k:D→M Bool}{Q:Bool→Hp→Prop}(h:WPB Xw F H (m>>=k) Q):WP K Xw F H m fun v H1=>∃F1 d,Ext F H F1 H1∧Den K F1 d v∧WPB Xw F1 H1 (k d) Q:=by
 match m,h with
 |none,h=>exact h
 |some (.ok d),h=>exact fun v H2 F2 e2 q=>⟨F2,d,e2,q,WPB.ext e2 (show WPB Xw F H (k d) Q from h)⟩
 |some (.ex n),h=>exact h
theorem WPB.bindB{m:M Bool}{k:Bool→M Bool}{Q:Bool→Hp→Prop}(h:WPB Xw F H (m>>=k) Q):WPB Xw F H m fun b H1=>∃F1,Ext F H F1 H1∧WPB Xw F1 H1 (k b) Q:=by
 match m,h with
 |none,h=>exact h
 |some (.ok d),h=>exact fun H2 F2 e2=>⟨F2,e2,WPB.ext e2 (show WPB Xw F H (k d) Q from h)⟩
 |some (.ex n),h=>exact h
theorem WPL.bind{m:M D}{k:D→M (List D)}{Q:List V→Hp→Prop}(h:WPL K Xw F H (m>>=k) Q):WP K Xw F H m fun v H1=>∃F1 d,Ext F H F1 H1∧Den K F1 d v∧WPL K Xw F1 H1 (k d) Q:=by
 match m,h with
 |none,h=>exact h
 |some (.ok d),h=>exact fun v H2 F2 e2 q=>⟨F2,d,e2,q,WPL.ext e2 (show WPL K Xw F H (k d) Q from h)⟩
 |some (.ex n),h=>exact h
theorem WPL.bindL{m:M (List D)}{k:List D→M (List D)}{Q:List V→Hp→Prop}(h:WPL K Xw F H (m>>=k) Q):WPL K Xw F H m fun vs H1=>∃F1 ds,Ext F H F1 H1∧DenL K F1 ds vs∧WPL K Xw F1 H1 (k ds) Q:=by
 match m,h with
 |none,h=>exact h
 |some (.ok d),h=>exact fun v H2 F2 e2 q=>⟨F2,d,e2,q,WPL.ext e2 (show WPL K Xw F H (k d) Q from h)⟩
 |some (.ex n),h=>exact h
theorem WP.mono{m:M D}{Q':VK}(h:WP K Xw F H m Q)(k:∀v H',Q v H'→Q' v H'):WP K Xw F H m Q':=by
 match m,h with
 |none,h=>exact h
 |some (.ok d),h=>exact fun v H2 F2 e2 q=>k _ _ (h v H2 F2 e2 q)
 |some (.ex n),h=>exact h
theorem WPL.mono{m:M (List D)}{Q Q':List V→Hp→Prop}(h:WPL K Xw F H m Q)(k:∀v H',Q v H'→Q' v H'):WPL K Xw F H m Q':=by
 match m,h with
 |none,h=>exact h
 |some (.ok d),h=>exact fun v H2 F2 e2 q=>k _ _ (h v H2 F2 e2 q)
 |some (.ex n),h=>exact h
theorem WPB.mono{m:M Bool}{Q Q':Bool→Hp→Prop}(h:WPB Xw F H m Q)(k:∀v H',Q v H'→Q' v H'):WPB Xw F H m Q':=by
 match m,h with
 |none,h=>exact h
 |some (.ok d),h=>exact fun H2 F2 e2=>k _ _ (h H2 F2 e2)
 |some (.ex n),h=>exact h
end
inductive C where
 |lst (l:List D) | dct (ks:List (List Key)) (l:List D) | dci (ks:List Key) (l:List D)
def C.d:C→D
 | .lst ds=> .lst ds
 | .dct ks ds=> .dct ks ds
 | .dci ks ds=> .dci ks ds
inductive Sl where
 |fz (d:D) | ow (c:C)
abbrev aY:=List (Option Sl)
def DenC(K:W.Frag)(F:Hp):C→HO→Prop
 | .lst ds,o=>∃vs,o= .lst vs∧DenL K F ds vs∧ds.length≤lim
 | .dct ks ds,o=>∃vs,o= .dT (ks.zip vs)∧DenL K F ds vs∧ks.length=ds.length∧ds.length≤lim
 | .dci ks ds,o=>∃vs,o= .dK (ks.zip vs)∧DenL K F ds vs∧ks.length=ds.length∧ds.length≤lim
theorem DenC.mono{K:W.Frag}{F F':Hp}(e:Same F F'):∀{c:C}{o:HO},DenC K F c o→DenC K F' c o
 | .lst _,_,⟨vs,h1,h2,h3⟩=>⟨vs,h1,DenL.mono e h2,h3⟩
 | .dct _ _,_,⟨vs,h1,h2,h3⟩=>⟨vs,h1,DenL.mono e h2,h3⟩
 | .dci _ _,_,⟨vs,h1,h2,h3⟩=>⟨vs,h1,DenL.mono e h2,h3⟩
theorem DenC.notup{K:W.Frag}{F:Hp}:∀{c:C}{o:HO},DenC K F c o→∀ts,o≠ .tup ts
 | .lst _,_,⟨_,h1,_⟩,ts,z=>by rw[h1] at z;cases z
 | .dct _ _,_,⟨_,h1,_⟩,ts,z=>by rw[h1] at z;cases z
 | .dci _ _,_,⟨_,h1,_⟩,ts,z=>by rw[h1] at z;cases z
def mn(ob:Obj):HO→HO
 | .dT au=> .frz ob (.dT au)
 | .dK au=> .frz ob (.dK au)
 |o=>o
theorem DenC.den{K:W.Frag}{F F':Hp}{a:Addr}{ob:Obj}:∀{c:C}{o:HO},DenC K F c o→Same F F'→F' a=some (mn ob o)→Den K F' c.d (.ref a)
 | .lst _,_,⟨vs,h1,h2,h3⟩,e,q=>by subst h1;exact⟨a,vs,rfl,q,DenL.mono e h2,h3⟩
 | .dct _ _,_,⟨vs,h1,h2,h3⟩,e,q=>by subst h1;exact⟨a,ob,vs,rfl,q,DenL.mono e h2,h3⟩
 | .dci _ _,_,⟨vs,h1,h2,h3⟩,e,q=>by subst h1;exact⟨a,ob,vs,rfl,q,DenL.mono e h2,h3⟩
def DenO(K:W.Frag)(F H:Hp):Sl→V→Prop
 | .fz d,v=>Den K F d v
 | .ow c,v=>∃a o,v= .ref a∧H a=some o∧F a=none∧DenC K F c o
structure StE (K:W.Frag) (F H:Hp) (σ:St) (ρ:aY):Prop where
 fh:Same F H
 den:∀(i:Nat) (sl:Sl),ρ[i]? =some (some sl)→∃v,σ[i]? =some (some v)∧DenO K F H sl v
theorem DenO.ext{K:W.Frag}{F H F' H':Hp}(e:Ext F H F' H'):∀{sl:Sl}{v:V},DenO K F H sl v→DenO K F' H' sl v
 | .fz _,_,h=>Den.mono e.ff h
 | .ow _,_,⟨a,o,h1,h2,h3,h4⟩=>⟨a,o,h1,e.hh _ _ h2,by rw[e.old h2 h4.notup];exact h3,DenC.mono e.ff h4⟩
theorem StE.ext{K:W.Frag}{F H F' H':Hp}{σ:St}{ρ:aY}(s:StE K F H σ ρ)(e:Ext F H F' H'):StE K F' H' σ ρ:=
 ⟨e.fh,fun i sl q=>let ⟨v,h1,h2⟩:=s.den i sl q;⟨v,h1,h2.ext e⟩⟩
abbrev DE:=aY→M D
abbrev DT:=aY→M Bool
abbrev DA:=aY→M (List D)
def tD(K:W.Frag)(Xw:Nat→Hp→Prop)(δ:DE):TE:=fun σ H Q=>∃F ρ,StE K F H σ ρ∧WP K Xw F H (δ ρ) Q
def K7(K:W.Frag)(Xw:Nat→Hp→Prop)(δ:DT):TT:=fun σ H Q=>∃F ρ,StE K F H σ ρ∧WPB Xw F H (δ ρ) Q
def Mm(K:W.Frag)(Xw:Nat→Hp→Prop)(δ:DA):TA:=fun σ H Q=>∃F ρ,StE K F H σ ρ∧WPL K Xw F H (δ ρ) Q
def PD(X:Cx)(Xw:Nat→Hp→Prop)(e:Expr)(δ:DE):Prop:=PE X e (tD X.K Xw δ)
def mm(X:Cx)(Xw:Nat→Hp→Prop)(e:Expr)(δ:DT):Prop:=PT X e (K7 X.K Xw δ)
def mQ(X:Cx)(Xw:Nat→Hp→Prop)(es:List Expr)(δ:DA):Prop:=PA X es (Mm X.K Xw δ)
theorem PE.weak{X:Cx}{e:Expr}{t t':TE}(h:PE X e t)(k:∀σ H Q,t' σ H Q→t σ H Q):PE X e t':=fun pins s σ H Q I w=>h pins s σ H Q I (k σ H Q w)
theorem PT.weak{X:Cx}{e:Expr}{t t':TT}(h:PT X e t)(k:∀σ H Q,t' σ H Q→t σ H Q):PT X e t':=fun pins s σ H Q I w=>h pins s σ H Q I (k σ H Q w)
theorem PA.weak{X:Cx}{e:List Expr}{t t':TA}(h:PA X e t)(k:∀σ H Q,t' σ H Q→t σ H Q):PA X e t':=fun pos pins s σ H Q I w=>h pos pins s σ H Q I (k σ H Q w)
def dV(i:Nat):DE:=fun ρ=>match ρ[i]? with
 |some (some (.fz d))=>M.ret d
 |_=>M.stuck
def dC(d:D):DE:=fun _=>M.ret d
def d1(g:D→M D)(a:DE):DE:=fun ρ=>a ρ>>=g
def d2(g:D→D→M D)(a b:DE):DE:=fun ρ=>a ρ>>=fun x=>b ρ>>=fun y=>g x y
def aN:DA:=fun _=>M.ret []
def aC(a:DE)(r:DA):DA:=fun ρ=>a ρ>>=fun x=>r ρ>>=fun xs=>M.ret (x::xs)
def dA(g:List D→M D)(a:DA):DE:=fun ρ=>a ρ>>=g
def yo:D→M Bool
 | .bl b=>M.ret b
 |_=>M.stuck
def cf(a:DE):DT:=fun ρ=>a ρ>>=yo
def nh(a b:DT):DT:=fun ρ=>a ρ>>=fun x=>if x then b ρ else M.ret false
def ni(a b:DT):DT:=fun ρ=>a ρ>>=fun x=>if x then M.ret true else b ρ
def cP(a:DT):DT:=fun ρ=>a ρ>>=fun x=>M.ret (!x)
def Ea(c:DT)(a b:DE):DE:=fun ρ=>c ρ>>=fun x=>if x then a ρ else b ρ
def eV(a b:DE):DE:=fun ρ=>a ρ>>=fun x=>yo x>>=fun c=>if c then b ρ else M.ret (.bl false)
def Cy(a b:DE):DE:=fun ρ=>a ρ>>=fun x=>yo x>>=fun c=>if c then M.ret (.bl true) else b ρ
def Eb(a:DE):DE:=fun ρ=>a ρ>>=fun x=>yo x>>=fun c=>M.ret (.bl (!c))
section
variable{X:Cx}{Xw:Nat→Hp→Prop}{a b:Expr}{δa δb:DE}{pos:Pos}
theorem ab{i:Nat}{x:Str}(h:PE X (.Name x pos) (o6 i)):PD X Xw (.Name x pos) (dV i):=PE.weak h fun σ H Q ⟨F,ρ,s,w⟩=>by
 unfold dV at w
 split at w
 ·rename_i d e
  obtain⟨v,h1,h2⟩:=s.den i _ e
  exact⟨v,h1,WP.now w s.fh h2⟩
 ·exact w.elim
theorem gf{e:Expr}{d:D}{v:V}(h:PE X e (tC v))(hd:∀F,Den X.K F d v):PD X Xw e (dC d):=PE.weak h fun σ H Q ⟨F,ρ,s,w⟩=>WP.now w s.fh (hd F)
theorem ar{i j}:PD X Xw (.Constant (.int i) j pos) (dC (.int i)):=gf Gb fun _=>rfl
theorem gc{i j}:PD X Xw (.Constant (.bool i) j pos) (dC (.bl i)):=gf Iz fun _=>rfl
theorem F7{j}:PD X Xw (.Constant .none j pos) (dC .non):=gf Gd fun _=>rfl
theorem ir{x j}(h:x.length≤lim:=by decide):PD X Xw (.Constant (.str x) j pos) (dC (.str x)):=gf Gg fun _=>⟨rfl,h⟩
def vo(K:W.Frag)(r:R2)(g:D→D→M D):Prop:=∀(Xw:Nat→Hp→Prop) (F H:Hp) (x y:V) (dx dy:D) (Q:VK),Same F H→Den K F dx x→Den K F dy y→WP K Xw F H (g dx dy) Q→r x y H Q
theorem sP{r:R2}{g:D→D→M D}(hg:vo X.K r g):∀σ H Q,tD X.K Xw (d2 g δa δb) σ H Q→Jb r (tD X.K Xw δa) (tD X.K Xw δb) σ H Q:=fun σ H Q ⟨F,ρ,s,w⟩=>by
 refine⟨F,ρ,s,WP.mono (WP.bind w) fun v H1 ⟨F1,d,e1,q1,w1⟩=>?_⟩
 refine⟨F1,ρ,s.ext e1,WP.mono (WP.bind w1) fun u H2 ⟨F2,d',e2,q2,w2⟩=>?_⟩
 exact hg Xw F2 H2 v u d d' Q e2.fh (Den.mono e2.ff q1) q2 w2
theorem qA{op:Operator}{r:R2}{g:D→D→M D}(ho:OpR X (binaryOp op) r)(hg:vo X.K r g)(ha:PD X Xw a δa)(hb:PD X Xw b δb):PD X Xw (.BinOp a op b pos) (d2 g δa δb):=
 PE.weak (IB ho ha hb) (sP hg)
theorem oK{op:CmpOp}{r:R2}{g:D→D→M D}(ho:OpR X (compareOp op) r)(hg:vo X.K r g)(ha:PD X Xw a δa)(hb:PD X Xw b δb)(hm:behindInMarks op b=false:=by first | exact AW _ | rfl):PD X Xw (.Compare a [op] [b] pos) (d2 g δa δb):=
 PE.weak (Dv ho ha hb hm) (sP hg)
theorem eI{op:CmpOp}{r:R2}{g:D→D→M D}(ho:OpR X (compareOp op) r)(hg:vo X.K r g)(ha:PD X Xw a δa)(hb:PD X Xw b δb)(hm:behindInMarks op b=false:=by first | exact AW _ | rfl):mm X Xw (.Compare a [op] [b] pos) (cf (d2 g δa δb)):=
 PT.weak (DH ho ha hb hm) fun σ H Q ⟨F,ρ,s,w⟩=>by
  refine sP hg σ H _ ⟨F,ρ,s,WP.mono (WPB.bind w) fun v H1 ⟨F1,d,e1,q1,w1⟩=>?_⟩
  cases d with
  |bl k=>exact⟨k,q1,w1 _ _ (Ext.refl e1.fh)⟩
  |_=>exact w1.elim
theorem xP{r:R2}{g:D→D→M D}(hr:G5 X r)(hg:vo X.K r g)(ha:PD X Xw a δa)(hb:PD X Xw b δb)(hs:iQ b:=by intro _ _;rfl):PD X Xw (.Subscript a b pos) (d2 g δa δb):=
 PE.weak (IA hr ha hb hs) (sP hg)
theorem ae:mQ X Xw [] aN:=PA.weak r0 fun σ H Q ⟨F,ρ,s,w⟩=>w [] H F (Ext.refl s.fh) rfl
theorem aa{es:List Expr}{δs:DA}(ha:PD X Xw a δa)(hr:mQ X Xw es δs)(hs:starEach (a::es) X.env=(false,eval a X.env)::starEach es X.env:=by rfl):mQ X Xw (a::es) (aC δa δs):=
 PA.weak (rZ ha hr hs) fun σ H Q ⟨F,ρ,s,w⟩=>by
  refine⟨F,ρ,s,WP.mono (WPL.bind w) fun v H1 ⟨F1,d,e1,q1,w1⟩=>?_⟩
  refine⟨F1,ρ,s.ext e1,WPL.mono (WPL.bindL w1) fun vs H2 ⟨F2,ds,e2,q2,w2⟩=>?_⟩
  exact w2 _ _ _ (Ext.refl e2.fh) (.cons (Den.mono e2.ff q1) q2)
def fv(ds:List D):M D:=if ds.length≤lim then M.ret (.tup ds) else M.stuck
def e_(ds:List D):M D:=if ds.length≤lim then M.ret (.lst ds) else M.stuck
theorem vZ{ds:List D}{f:List D→D}{Q:VK}{F H:Hp}(w:WP X.K Xw F H (if ds.length≤lim then M.ret (f ds) else M.stuck) Q):ds.length≤lim∧WP X.K Xw F H (M.ret (f ds)) Q:=by
 split at w
 ·rename_i h;exact⟨h,w⟩
 ·exact w.elim
theorem lb{x1}{es:List Expr}{δs:DA}(h:mQ X Xw es δs):PD X Xw (.Tuple es x1 pos) (dA fv δs):=PE.weak (Gh h) fun σ H Q ⟨F,ρ,s,w⟩=>by
 refine⟨F,ρ,s,WPL.mono (WP.bindL w) fun vs H1 ⟨F1,ds,e1,q1,w1⟩=>?_⟩
 obtain⟨hl,w1⟩:=vZ (X:=X) w1
 have hv:=q1.len
 refine⟨by have:=e9;omega,fun p hp=>WP.fin w1 (Ext.lay e1.fh hp) ⟨p,vs,rfl,aD,DenL.mono (Ext.lay e1.fh hp).ff q1,hl⟩⟩
theorem ip{es:List Expr}{δs:DA}(h:mQ X Xw es δs):PD X Xw (.List es pos) (dA e_ δs):=PE.weak (Bo h) fun σ H Q ⟨F,ρ,s,w⟩=>by
 refine⟨F,ρ,s,WPL.mono (WP.bindL w) fun vs H1 ⟨F1,ds,e1,q1,w1⟩=>?_⟩
 obtain⟨hl,w1⟩:=vZ (X:=X) w1
 have hv:=q1.len
 refine⟨by have:=e9;omega,fun p hp=>WP.fin w1 (Ext.lay e1.fh hp) ⟨p,vs,rfl,aD,DenL.mono (Ext.lay e1.fh hp).ff q1,hl⟩⟩
end
def ItD(K:W.Frag)(F:Hp)(J:It)(ds:List D):Prop:=∀(F' H':Hp) (i:Nat),Same F F'→Same F' H'→
 (∀d,ds[i]? =some d→J.go i H'∧∀x H'',J.yld i H' x H''→∃F'',Ext F' H' F'' H''∧Den K F'' d x)∧(ds.length≤i→J.stop i H')
theorem ItD.mono{K:W.Frag}{F F1:Hp}{J:It}{ds:List D}(h:ItD K F J ds)(e:Same F F1):ItD K F1 J ds:=fun F' H' i s1 s2=>h F' H' i (e.trans s1) s2
def WPI(K:W.Frag)(Xw:Nat→Hp→Prop)(F H:Hp)(m:M (List D))(R:It→Hp→Prop):Prop:=
 match m with
 |none=>False
 |some (.ok ds)=>∀J H' F',Ext F H F' H'→ItD K F' J ds→R J H'
 |some (.ex n)=>∀F' H',Ext F H F' H'→Xw n H'
def Oa(K:W.Frag)(Xw:Nat→Hp→Prop)(δ:DA):TI:=fun σ H R=>∃F ρ,StE K F H σ ρ∧WPI K Xw F H (δ ρ) R
def yi(X:Cx)(Xw:Nat→Hp→Prop)(tg iter:Expr)(δ:DA):Prop:=PI X tg iter (Oa X.K Xw δ)
theorem PI.weak{X:Cx}{tg e:Expr}{t t':TI}(h:PI X tg e t)(k:∀σ H Q,t' σ H Q→t σ H Q):PI X tg e t':=fun pins s σ H Q I w=>h pins s σ H Q I (k σ H Q w)
theorem WPI.bind{K:W.Frag}{Xw:Nat→Hp→Prop}{F H:Hp}{m:M D}{k:D→M (List D)}{R:It→Hp→Prop}(h:WPI K Xw F H (m>>=k) R):
 WP K Xw F H m fun v H1=>∃F1 d,Ext F H F1 H1∧Den K F1 d v∧WPI K Xw F1 H1 (k d) R:=by
 match m,h with
 |none,h=>exact h
 |some (.ok d),h=>
  refine fun v H2 F2 e2 q=>⟨F2,d,e2,q,?_⟩
  have h:WPI K Xw F H (k d) R:=h
  show WPI K Xw F2 H2 (k d) R
  match k d,h with
  |none,h=>exact h
  |some (.ok ds),h=>exact fun J H3 F3 e3 q3=>h J H3 F3 (e2.trans e3) q3
  |some (.ex n),h=>exact fun F3 H3 e3=>h F3 H3 (e2.trans e3)
 |some (.ex n),h=>exact h
theorem WPI.bindL{K:W.Frag}{Xw:Nat→Hp→Prop}{F H:Hp}{m:M (List D)}{k:List D→M (List D)}{R:It→Hp→Prop}(h:WPI K Xw F H (m>>=k) R):
 WPL K Xw F H m fun v H1=>∃F1 d,Ext F H F1 H1∧DenL K F1 d v∧WPI K Xw F1 H1 (k d) R:=by
 match m,h with
 |none,h=>exact h
 |some (.ok d),h=>
  refine fun v H2 F2 e2 q=>⟨F2,d,e2,q,?_⟩
  have h:WPI K Xw F H (k d) R:=h
  show WPI K Xw F2 H2 (k d) R
  match k d,h with
  |none,h=>exact h
  |some (.ok ds),h=>exact fun J H3 F3 e3 q3=>h J H3 F3 (e2.trans e3) q3
  |some (.ex n),h=>exact fun F3 H3 e3=>h F3 H3 (e2.trans e3)
 |some (.ex n),h=>exact h
def lstM:D→M (List D)
 | .lst ds=>M.ret ds
 |_=>M.stuck
def Lg:D→M (List D)
 | .tup ds=>M.ret ds
 |_=>M.stuck
def cO(a:DE):DA:=fun ρ=>a ρ>>=lstM
def vJ(a:DE):DA:=fun ρ=>a ρ>>=Lg
theorem AA{K:W.Frag}{F:Hp}{a:Addr}{vs:List V}{ds:List D}(h:SqL K F a vs)(hd:DenL K F ds vs):ItD K F (JG K a) ds:=fun F' H' i s1 s2=>by
 have hs:=Same.seq s2 (Same.seq s1 h)
 refine⟨fun d e=>?_,fun hl=>⟨vs,hs,by rw[←hd.len];exact hl⟩⟩
 obtain⟨v,e1,q⟩:=hd.get e
 refine⟨⟨vs,v,hs,e1⟩,fun x H'' y=>?_⟩
 obtain⟨e2,y⟩:=y
 subst e2
 have:=y vs hs
 rw[e1] at this
 cases this
 exact⟨F',Ext.refl s2,Den.mono s1 q⟩
theorem CW{K:W.Frag}{F:Hp}{a:Addr}{vs:List V}{ds:List D}(h:SqT K F a vs)(hd:DenL K F ds vs):ItD K F (JH K a) ds:=fun F' H' i s1 s2=>by
 have hs:=Same.tup s2 (Same.tup s1 h)
 refine⟨fun d e=>?_,fun hl=>⟨vs,hs,by rw[←hd.len];exact hl⟩⟩
 obtain⟨v,e1,q⟩:=hd.get e
 refine⟨⟨vs,v,hs,e1⟩,fun x H'' y=>?_⟩
 obtain⟨e2,y⟩:=y
 subst e2
 have:=y vs hs
 rw[e1] at this
 cases this
 exact⟨F',Ext.refl s2,Den.mono s1 q⟩
def gk(lo:Int)(n:Nat):List D:=(List.range n).map fun(i:Nat)=>D.int (lo+(i:Int))
theorem qg{K:W.Frag}{F:Hp}(lo:Int)(n:Nat):ItD K F (G4 lo n) (gk lo n):=fun F' H' i s1 s2=>by
 refine⟨fun d e=>?_,fun hl=>show n≤i by simpa[gk] using hl⟩
 unfold gk at e
 rw[List.getElem?_map] at e
 have hi:i<n:=by
  by_cases hi:i<n
  ·exact hi
  ·rw[List.getElem?_eq_none (by simpa using hi)] at e;cases e
 rw[List.getElem?_range hi] at e
 cases e
 refine⟨hi,fun x H'' y=>?_⟩
 obtain⟨e2,y⟩:=y
 subst e2 y
 exact⟨F',Ext.refl s2,rfl⟩
section
variable{X:Cx}{Xw:Nat→Hp→Prop}{tg l:Expr}{δ:DE}{pos:Pos}
theorem bD(h:PD X Xw l δ):yi X Xw tg l (cO δ):=PI.weak (Dy h) fun σ H R ⟨F,ρ,s,w⟩=>by
 refine⟨F,ρ,s,WP.mono (WPI.bind w) fun v H1 ⟨F1,d,e1,q1,w1⟩=>?_⟩
 cases d with
 |lst ds=>
  obtain⟨a,vs,h1,h2,h3,h4⟩:=q1
  exact⟨a,h1,⟨vs,Same.seq e1.fh (SqL.of h2)⟩,w1 _ _ _ (Ext.refl e1.fh) (AA (SqL.of h2) h3)⟩
 |_=>exact w1.elim
theorem xT(h:PD X Xw l δ):yi X Xw tg l (vJ δ):=PI.weak (Gm h) fun σ H R ⟨F,ρ,s,w⟩=>by
 refine⟨F,ρ,s,WP.mono (WPI.bind w) fun v H1 ⟨F1,d,e1,q1,w1⟩=>?_⟩
 cases d with
 |tup ds=>
  obtain⟨a,vs,h1,h2,h3,h4⟩:=q1
  exact⟨a,h1,⟨vs,Same.tup e1.fh (SqT.of h2)⟩,w1 _ _ _ (Ext.refl e1.fh) (CW (SqT.of h2) h3)⟩
 |_=>exact w1.elim
def jx:List D→M (List D)
 |[.int j]=>if -4096≤j∧j≤4096 then M.ret (gk 0 j.toNat) else M.stuck
 |_=>M.stuck
def qK:List D→M (List D)
 |[.int i, .int j]=>if (-4096≤i∧i≤4096)∧(-4096≤j∧j≤4096) then M.ret (gk i (j - i).toNat) else M.stuck
 |_=>M.stuck
theorem DenL.one{K:W.Frag}{F:Hp}{d:D}{vs:List V}(h:DenL K F [d] vs):∃v,vs=[v]∧Den K F d v:=by
 obtain⟨v,r,h1,h2,h3⟩:=h
 cases (show r=[] from h3)
 exact⟨v,h1,h2⟩
theorem DenL.two{K:W.Frag}{F:Hp}{d d':D}{vs:List V}(h:DenL K F [d,d'] vs):∃v v',vs=[v,v']∧Den K F d v∧Den K F d' v':=by
 obtain⟨v,r,h1,h2,h3⟩:=h
 obtain⟨v',h4,h5⟩:=h3.one
 subst h4
 exact⟨v,v',h1,h2,h5⟩
theorem fe{a:Expr}{δs:DA}{p:Pos}(hg:Gl X "range")(hm:X.mg "range"=none)(ha:mQ X Xw [a] δs)(hs:starEach [a] X.env=[(false,eval a X.env)]:=by rfl):yi X Xw tg (.Call (.Name "range" p) [a] [] pos) (fun ρ=>δs ρ>>=jx):=
 PI.weak (zi hg hm ha hs) fun σ H R ⟨F,ρ,s,w⟩=>by
  refine⟨F,ρ,s,WPL.mono (WPI.bindL w) fun vs H1 ⟨F1,ds,e1,q1,w1⟩=>?_⟩
  unfold jx at w1
  split at w1
  ·rename_i j
   obtain⟨v,h1,h2⟩:=q1.one
   cases (show v=_ from h2)
   split at w1
   ·exact⟨j,h1,by omega,by omega,w1 _ _ _ (Ext.refl e1.fh) (qg 0 _)⟩
   ·exact w1.elim
  ·exact w1.elim
theorem oM{a b:Expr}{δs:DA}{p:Pos}(hg:Gl X "range")(hm:X.mg "range"=none)(ha:mQ X Xw [a,b] δs)(hs:starEach [a,b] X.env=[(false,eval a X.env),(false,eval b X.env)]:=by rfl)
 (Jp:starEach [b] X.env=[(false,eval b X.env)]:=by rfl):yi X Xw tg (.Call (.Name "range" p) [a,b] [] pos) (fun ρ=>δs ρ>>=qK):=
 PI.weak (zj hg hm ha hs Jp) fun σ H R ⟨F,ρ,s,w⟩=>by
  refine⟨F,ρ,s,WPL.mono (WPI.bindL w) fun vs H1 ⟨F1,ds,e1,q1,w1⟩=>?_⟩
  unfold qK at w1
  split at w1
  ·rename_i i j
   obtain⟨v,v',h1,h2,h3⟩:=q1.two
   cases (show v=_ from h2)
   cases (show v'=_ from h3)
   split at w1
   ·exact⟨i,j,h1,⟨by omega,by omega,by omega,by omega⟩,w1 _ _ _ (Ext.refl e1.fh) (qg i _)⟩
   ·exact w1.elim
  ·exact w1.elim
end
def di(tg N:List Str):List Str:=N.map fun y=>if tg.contains y then y++(" ":Str) else y
def jh(X:Cx)(scope:Scope)(tn:List Str)(pins:List (Addr×Obj))(cl:List (Str×Addr))(C:Addr)(fp:List Addr)(s₂:Shared)(H:Hp):Cx:=
 {X with N:=tn++di tn X.N,s₀:=s₂,H₀:=H,env:=compEnvC scope cl C X.env,outer:=X.stack,ex:=fp,fn:=fun _=>false,pn:=X.pn++pins,xe:=fun _ _=>False}
structure CompSc (X:Cx) (scope:Scope) (tn:List Str):Prop where
 kind:scope.kind= .function
 nocell:∀y∈scope.names,y.2≠ .cell
 names:∀y∈scope.names,y.2= .local→scope.names.lookup y.1=some .local
 frees:∀y∈scope.names,y.2= .free→X.env.kindOf y.1=some .cell∨X.env.kindOf y.1=some .free
 vis:∀p∈(di tn X.N).zip X.N,scope.names.lookup p.1=none∨(p.1=p.2∧scope.names.lookup p.1=some .free)
theorem jD{env:Env}:∀(names:List (Str×NameKind)) (acc:List (Str×Addr)),(∀y∈names,y.2= .free→∃c,env.cells.lookup y.1=some c)→
 (∀x c,acc.lookup x=some c→env.cells.lookup x=some c)→
 ∃cl,(forIn names acc (fun (x:Str×NameKind) (r:List (Str×Addr))=>do
   let __x:=x
   if (__x.2==NameKind.free)=true then do let c←cellOf env __x.1;pure (ForInStep.yield ((__x.1,c)::r)) else pure (ForInStep.yield r)):Sem (List (Str×Addr)))=pure cl∧
  (∀x c,cl.lookup x=some c→env.cells.lookup x=some c)∧(∀x c,acc.lookup x=some c→∃c',cl.lookup x=some c')∧(∀x,names.lookup x=some .free→∃c,cl.lookup x=some c)
 |[],acc,_,h2=>⟨acc,rfl,h2,fun x c e=>⟨c,e⟩,fun x e=>by simp at e⟩
 |(n,k)::r,acc,h1,h2=>by
  by_cases hk:k= .free
  ·subst hk
   obtain⟨c,hc⟩:=h1 (n, .free) List.mem_cons_self rfl
   obtain⟨cl,e,a1,a2,a3⟩:=jD r ((n,c)::acc) (fun y hy=>h1 y (List.mem_cons_of_mem _ hy)) (fun x c' q=>by
    rw[List.lookup_cons] at q
    split at q
    ·rename_i hx
     cases q
     rw[show x=n from by simpa using hx];exact hc
    ·exact h2 x c' q)
   refine⟨cl,?_,a1,fun x c' q=>?_,fun x q=>?_⟩
   ·rw[List.forIn_cons]
    have:cellOf env n=pure c:=by unfold cellOf;rw[hc]
    simp only[beq_self_eq_true,if_true,this,pure_bind]
    exact e
   ·by_cases hx:x=n
    ·subst hx
     exact a2 x c (by simp[List.lookup_cons])
    ·exact a2 x c' (by rw[List.lookup_cons,show (x==n)=false from by simpa using hx];exact q)
   ·rw[List.lookup_cons] at q
    split at q
    ·rename_i hx
     exact a2 x c (by rw[List.lookup_cons,hx])
    ·exact a3 x q
  ·obtain⟨cl,e,a1,a2,a3⟩:=jD r acc (fun y hy=>h1 y (List.mem_cons_of_mem _ hy)) h2
   refine⟨cl,?_,a1,a2,fun x q=>?_⟩
   ·rw[List.forIn_cons]
    have:((k==NameKind.free)=true)=False:=by simpa using hk
    simp only[this,if_false,pure_bind]
    exact e
   ·rw[List.lookup_cons] at q
    split at q
    ·cases q;exact absurd rfl hk
    ·exact a3 x q
theorem m7{scope:Scope}{env:Env}(h:∀y∈scope.names,y.2= .free→∃c,env.cells.lookup y.1=some c):
 ∃cl,closureFor scope env=pure cl∧(∀x c,cl.lookup x=some c→env.cells.lookup x=some c)∧(∀x,scope.names.lookup x=some .free→∃c,cl.lookup x=some c):=by
 obtain⟨cl,e,a1,_,a3⟩:=jD (env:=env) scope.names [] h (fun x c q=>by simp at q)
 refine⟨cl,?_,a1,a3⟩
 unfold closureFor
 show (forIn scope.names [] _>>=fun r=>pure r)=_
 rw[bind_pure]
 exact e
def noex{α:Type}:M α→M α
 |some (.ok a)=>some (.ok a)
 |_=>none
def dg(f:D→M (Option D)):List D→M (List D)
 |[]=>M.ret []
 |d::ds=>f d>>=fun o=>dg f ds>>=fun r=>M.ret (match o with | some y=>y::r | none=>r)
def Mn(n:Nat):D→M (List D):=fun d=>match n,d with
 |0,d=>M.ret [d]
 |n, .tup ds=>if ds.length=n then M.ret ds else M.stuck
 |_,_=>M.stuck
def g0(n:Nat)(δt:DT)(δe:DE)(ρ:aY):D→M (Option D):=fun d=>
 Mn n d>>=fun ts=>δt (ts.map (fun t=>some (Sl.fz t))++ρ)>>=fun b=>if b then δe (ts.map (fun t=>some (Sl.fz t))++ρ)>>=fun y=>M.ret (some y) else M.ret none
def bt(n:Nat)(δi:DA)(δt:DT)(δe:DE):DE:=fun ρ=>δi ρ>>=fun ds=>noex (dg (g0 n δt δe ρ) ds)>>=e_
def du:DT:=fun _=>M.ret true
theorem eU(f:D→M (Option D))(d:D)(ds:List D):dg f (d::ds)=(f d>>=fun o=>dg f ds>>=fun r=>M.ret (match o with | some y=>y::r | none=>r)):=rfl
theorem vI{f:D→M (Option D)}{ds:List D}{i:Nat}{d:D}{ys R:List D}(hd:ds[i]? =some d)
 (h:dg f ds=(dg f (ds.drop i)>>=fun r=>M.ret (ys++r)))(hR:dg f ds=M.ret R):
 ∃o,f d=M.ret o∧dg f ds=(dg f (ds.drop (i+1))>>=fun r=>M.ret ((match o with | some y=>ys++[y] | none=>ys)++r)):=by
 have e:ds.drop i=d::ds.drop (i+1):=by
  obtain⟨hi,e⟩:=List.getElem?_eq_some_iff.mp hd
  rw[List.drop_eq_getElem_cons hi,e]
 rw[e,eU] at h
 have h':=h.symm.trans hR
 obtain⟨r,h1,h2⟩:=gu h'
 obtain⟨o,h3,h4⟩:=gu h1
 refine⟨o,h3,?_⟩
 obtain⟨r',h5,h6⟩:=gu h4
 rw[h5,hR]
 rw[←h2,←fE h6]
 show M.ret _=M.ret _
 cases o with
 |none=>rfl
 |some y=>simp
theorem yy{prog:Program}{w:World}{A:Around}{R:Result→Shared→Prop}{s:Shared}{elt target iter:Expr}{ifs:List Expr}{scope:Scope}{pos:Pos}{it acc:Value}{env:Env}(I:Nat→Shared→Prop)
 (turn:∀n s,I n s→wpAny (model prog w) A (pyNext it) (fun r s₁=>match r with
  |none=>R (.ok .next) s₁
  |some v=>wpAny (model prog w) A (letOwnedTupleGo target it v) (fun _ Ml=>wpAny (model prog w) A (assign target env v) (fun _ s₂=>
    wpAny (model prog w) A (forIn ifs true fun c r=>if r=true then do let ok←isTrue c env (eval c env);pure (ForInStep.yield ok) else pure (ForInStep.yield r)) (fun ok s₃=>
     if ok=true then wpAny (model prog w) A (eval elt env) (fun x s₄=>
      wpAny (model prog w) A (call (.builtin "list.append") [acc,x]) (fun _ s₅=>∃m,m<n∧I m s₅) (notedBy (model prog w) A env fun e s'=>R (.error e) s') s₄) (notedBy (model prog w) A env fun e s'=>R (.error e) s') s₃
     else∃m,m<n∧I m s₃) (notedBy (model prog w) A env fun e s'=>R (.error e) s') s₂) (notedBy (model prog w) A env fun e s'=>R (.error e) s') Ml) (notedBy (model prog w) A env fun e s'=>R (.error e) s') s₁) (notedBy (model prog w) A env fun e s'=>R (.error e) s') s)
 (n:Nat) (h:I n s):
 codeAny (model prog w) A (.compLoop (.ListComp elt [⟨target,iter,ifs,0⟩] scope pos) 0 it acc env) R s:=by
 refine codeAny_loop rfl I (fun n s hI=>?_) n h
 show wpAny _ A ((compTurn (.ListComp elt [⟨target,iter,ifs,0⟩] scope pos) 0 it acc env).onRaise (fun x=>do noteFrame x env;theTreesLotGoes x)) _ _ s
 refine wpAny_noted ?_
 rw[compTurn_list]
 refine wpAny_bind (wpAny_standAt (wpAny_bind (wpAny_mono (turn n s hI) (fun r s₁ h₁=>?_) fun _ _ h'=>h')))
 cases r with
 |none=>exact wpAny_pure h₁
 |some v=>
  refine wpAny_bind (wpAny_mono h₁ (fun _ Ml h₁=>?_) fun _ _ h'=>h')
  refine wpAny_bind (wpAny_mono h₁ (fun _ s₂ h₂=>wpAny_bind (wpAny_mono h₂ (fun ok s₃ h₃=>?_) fun _ _ h'=>h')) fun _ _ h'=>h')
  cases ok with
  |false=>exact wpAny_pure ⟨rfl,h₃⟩
  |true=>
   exact wpAny_bind (wpAny_bind (wpAny_mono h₃ (fun x s₄ h₄=>wpAny_bind (wpAny_mono h₄ (fun _ s₅ h₅=>wpAny_pure (wpAny_pure ⟨rfl,h₅⟩)) fun _ _ h'=>h')) fun _ _ h'=>h'))
def zE(X:Cx)(tg:Expr)(n:Nat)(σ:St):Prop:=∀(pins:List (Addr×Obj)) (s:Shared) (σ':St) (F H:Hp) (d:D) (ts:List D) (v:V) (u:Value),Inv X pins σ' H s→Same F H→σ'.drop (max n 1)=σ→RelV v u→Den X.K F d v→Mn n d=M.ret ts→
 wpAny (model X.prog X.w) X.A (assign tg X.env u) (fun _ s'=>∃vs,Inv X pins (vs.map some++σ) H s'∧DenL X.K F ts vs) X.xe s
def kO(X:Cx)(ifs:List Expr)(δt:DT):Prop:=∀(pins:List (Addr×Obj)) (s:Shared) (σ:St) (H:Hp) (Q:Bool→Hp→Prop),Inv X pins σ H s→K7 X.K (fun _ _=>False) δt σ H Q→
 wpAny (model X.prog X.w) X.A (forIn ifs true fun c r=>if r=true then do let ok←isTrue c X.env (eval c X.env);pure (ForInStep.yield ok) else pure (ForInStep.yield r)) (TP X pins σ Q) X.xe s
theorem gn{X:Cx}:kO X [] du:=fun pins s σ H Q I ⟨F,ρ,S,w⟩=>wpAny_tests_nil ⟨H,I,w H F (Ext.refl S.fh)⟩
theorem iO{X:Cx}{c:Expr}{δ:DT}(h:mm X (fun _ _=>False) c δ):kO X [c] δ:=fun pins s σ H Q I w=>wpAny_tests_one (h pins s σ H Q I w)
theorem StE.cons{K:W.Frag}{F H:Hp}{σ:St}{ρ:aY}{ts:List D}{vs:List V}(s:StE K F H σ ρ)(h:DenL K F ts vs):StE K F H (vs.map some++σ) (ts.map (fun t=>some (Sl.fz t))++ρ):=by
 refine⟨s.fh,fun i sl e=>?_⟩
 have hl:=h.len
 by_cases hi:i<ts.length
 ·rw[List.getElem?_append_left (by simpa using hi),List.getElem?_map] at e
  cases q:ts[i]? with
  |none=>rw[q] at e;cases e
  |some t=>
   rw[q] at e
   cases e
   obtain⟨v,e1,e2⟩:=h.get q
   exact⟨v,by rw[List.getElem?_append_left (by simp;omega),List.getElem?_map,e1];rfl,e2⟩
 ·rw[List.getElem?_append_right (by simpa using hi)] at e
  obtain⟨v,e1,e2⟩:=s.den _ _ e
  refine⟨v,?_,e2⟩
  rw[List.getElem?_append_right (by simp;omega)]
  simpa[hl] using e1
theorem WPB.take{Xw:Nat→Hp→Prop}{F H:Hp}{b:Bool}:WPB Xw F H (M.ret b) fun b' H'=>b'=b∧∃F',Ext F H F' H':=fun H' F' e=>⟨rfl,F',e⟩
theorem WP.take{K:W.Frag}{Xw:Nat→Hp→Prop}{F H:Hp}{d:D}:WP K Xw F H (M.ret d) fun v H'=>∃F',Ext F H F' H'∧Den K F' d v:=fun v H' F' e q=>⟨F',e,q⟩
def ll(env:Env)(p:Str×NameKind):Str×NameKind:=if (p.2== .free&&env.scope.kind== .function&&env.kindOf p.1==some .cell) then(p.1, .cell) else(p.1,p.2)
theorem fM(scope:Scope)(env:Env):(relabel scope env).names=scope.names.map (ll env):=rfl
theorem BF(env:Env)(p:Str×NameKind):(ll env p).1=p.1:=by unfold ll;split<;>rfl
theorem gJ(env:Env)(x:Str):∀ns:List (Str×NameKind),(ns.map (ll env)).lookup x=(ns.lookup x).map fun k=>(ll env (x,k)).2
 |[]=>rfl
 |(m,k)::r=>by
  rw[List.map_cons,List.lookup_cons,List.lookup_cons]
  have e:ll env (m,k)=(m,(ll env (m,k)).2):=Prod.ext (BF env (m,k)) rfl
  rw[e]
  dsimp only
  by_cases hx:(x==m)=true
  ·have hm:x=m:=by simpa using hx
   subst hm
   rw[hx]
   rfl
  ·have hx:(x==m)=false:=by simpa using hx
   rw[hx]
   exact gJ env x r
theorem sm{scope:Scope}{env:Env}{x:Str}(h:scope.names.lookup x=none):(relabel scope env).names.lookup x=none:=by
 rw[fM,gJ,h];rfl
theorem sk{scope:Scope}{env:Env}{x:Str}(hc:∀y∈scope.names,y.2≠ .cell)(h:(relabel scope env).names.lookup x=some .cell∨(relabel scope env).names.lookup x=some .free):scope.names.lookup x=some .free:=by
 rw[fM,gJ] at h
 cases q:scope.names.lookup x with
 |none=>rw[q] at h;rcases h with h | h<;>cases h
 |some k=>
  rw[q] at h
  have hk:k≠ .cell:=hc _ (PySem.mem_of_lookup q)
  have h:(ll env (x,k)).2= .cell∨(ll env (x,k)).2= .free:=by simpa using h
  by_cases hf:k= .free
  ·rw[hf]
  ·have:(ll env (x,k)).2=k:=by
    unfold ll
    rw[if_neg]
    simp[hf]
   rw[this] at h
   rcases h with h | h
   ·exact absurd h hk
   ·exact absurd h hf
theorem lq{scope:Scope}{env:Env}{x:Str}(h:scope.names.lookup x=some .free):¬(relabel scope env).names.lookup x=some .local:=by
 rw[fM,gJ,h]
 intro z
 have z:(ll env (x, .free)).2= .local:=by simpa using z
 unfold ll at z
 split at z<;>cases z
structure BlockEnd (X:Cx) (pins:List (Addr×Obj)) (C:Addr) (H':Hp) (s1:Shared):Prop where
 ns:∃m,s1.heap.Ns C m
 free:H' C=none
 nl:C≠X.env.locals
 nw:X.s₀.heap.objs.size≤C
 nc:∀x c,X.env.cells.lookup x=some c→c≠C
 np:∀p∈X.pn++pins,p.1≠C
theorem tq{X:Cx}{Xw:Nat→Hp→Prop}{elt iter tg:Expr}{ifs:List Expr}{scope:Scope}{pos:Pos}{tn:List Str}{n:Nat}{δi:DA}{δt:DT}{δe:DE}{cl:List (Str×Addr)}{pins:List (Addr×Obj)}{s:Shared}{σ:St}{H F:Hp}{ρ:aY}{Q:VK}{RR:Value→Addr→Result→Shared→Prop}
 (sc:CompSc X scope tn)(hn:tn.length=max n 1)(hc:X.calm=true)(hi:yi X Xw tg iter δi)
 (hg:∀pins cl C fp s₂ H σ,zE (jh X scope tn pins cl C fp s₂ H) tg n σ)
 (ht:∀pins cl C fp s₂ H,kO (jh X scope tn pins cl C fp s₂ H) ifs δt)
 (he:∀pins cl C fp s₂ H,PD (jh X scope tn pins cl C fp s₂ H) (fun _ _=>False) elt δe)
 (I:Inv X pins σ H s)(S:StE X.K F H σ ρ)(w:WP X.K Xw F H (bt n δi δt δe ρ) Q)
 (zY:∀x c,cl.lookup x=some c→X.env.cells.lookup x=some c)(GR:∀x,scope.names.lookup x=some .free→∃c,cl.lookup x=some c)
 (MP:∀(s1:Shared) (C D:Addr) (H':Hp),Inv X pins σ H' s1→Q (.ref D) H'→BlockEnd X pins C H' s1→RR (.ref D) C (.ok .next) s1):
 wpAny (model X.prog X.w) X.A (eval iter X.env) (fun x s₁=>wpAny (model X.prog X.w) X.A (pyIter x) (fun it s₂=>wpAny (model X.prog X.w) X.A (newList []) (fun acc s₃=>
  wpAny (model X.prog X.w) X.A (newFunctionEnv scope X.env.globals cl [] X.env.qual none .none (some X.env)) (fun Hc s₄=>
   codeAny (model X.prog X.w) X.A (.compStart (.ListComp elt [⟨tg,iter,ifs,0⟩] scope pos) 0 it acc {Hc with scope:=relabel scope X.env}) (RR acc Hc.locals) s₄) X.xe s₃) X.xe s₂) X.xe s₁) X.xe s:=by
 refine cg (hi pins s σ H (fun J H2=>∃F2 ds,Ext F H F2 H2∧ItD X.K F2 J ds∧WP X.K Xw F2 H2 (noex (dg (g0 n δt δe ρ) ds)>>=e_) Q) I ⟨F,ρ,S,?_⟩) fun xv s₁ h₁=>cg h₁ fun it s₂ h₂=>?_
 ·unfold bt at w
  rcases(δi ρ).cs with hq | ⟨m,hq⟩ | ⟨ds,hq⟩
  ·rw[hq] at w;exact w.elim
  ·rw[hq] at w⊢;exact w
  ·rw[hq] at w⊢;exact fun J H' F' e q=>⟨F',ds,e,q,WP.ext e w⟩
 obtain⟨ia,fp,Mo,J,H2,rfl,I2,T,IY,f2,F2,ds,e2,L9,w2⟩:=h₂
 obtain⟨R,hR,LC,w2⟩:∃R,dg (g0 n δt δe ρ) ds=M.ret R∧R.length≤lim∧WP X.K Xw F2 H2 (M.ret (.lst R)) Q:=by
  rcases(dg (g0 n δt δe ρ) ds).cs with hq | ⟨m,hq⟩ | ⟨R,hq⟩
  ·rw[hq] at w2;exact w2.elim
  ·rw[hq] at w2;exact w2.elim
  ·rw[hq] at w2
   obtain⟨h1,h2⟩:=vZ (X:=X) (f:=D.lst) (show WP X.K Xw F2 H2 (e_ R) Q from w2)
   exact⟨R,hq,h1,h2⟩
 refine wpAny_newObj_type (wpAny_newFunctionEnv sc.nocell (by intro y hy;simp at hy) (fun h₁ Fh CP=>?_) sc.kind)
 dsimp only at Fh CP⊢
 generalize JT:s₂.heap.push {cls:= .type "list",dict:=none,data:= .seq ([]:List Value).toArray}=HL at Fh CP⊢
 have hC:HL.objs.size=s₂.heap.objs.size+1:=by rw[←JT,Heap.size_push]
 have yD:s₂.heap.objs.size<HL.objs.size:=by rw[hC];exact Nat.lt_succ_self _
 have old:∀b o,s₂.heap.get? b=some o→h₁.get? b=some o:=fun b o e=>CP.extBut b o (Nat.ne_of_lt (Nat.lt_trans (Heap.lt_size e) yD)) (Heap.get?_push_of_some _ (JT▸Heap.get?_push_of_some _ e))
 have kS:h₁.get? s₂.heap.objs.size=some {cls:= .type "list",data:= .seq ([]:List Value).toArray}:=CP.extBut _ _ (Nat.ne_of_lt yD) (Heap.get?_push_of_some _ (JT▸Heap.get?_push_size _ rfl))
 have nD:H2 s₂.heap.objs.size=none:=I2.hok.fresh (Nat.le_refl _)
 have nC:H2 HL.objs.size=none:=I2.hok.fresh (Nat.le_of_lt yD)
 have gC:s₂.heap.get? HL.objs.size=none:=Heap.get?_none_of_le (Nat.le_of_lt yD)
 have fl:∀b∈fp,b<s₂.heap.objs.size:=fun b hb=>by
  obtain⟨o,e,_⟩:=T.obj 0 _ IY b hb
  exact Heap.lt_size e
 generalize tR:jh X scope tn pins cl HL.objs.size fp s₂ H2=X'
 have Mg:X'.Ok:=by
  subst tR
  refine⟨I2.ok.mod,sc.kind,I2.ok.glob,I2.ok.blt,Nat.le_of_lt yD,fun x y c h1 h2=>I2.ok.inj x y c (zY _ _ h1) (zY _ _ h2),fun x hx=>?_,fun _ _ h=>(by cases h),I2.ok.hd,I2.ok.frames, .inl rfl,
   fun b hb=>⟨Nat.ne_of_lt (Nat.lt_trans (fl b hb) yD),fun x c h=>(f2 b hb).2.2.2.2.1 x c (zY _ _ h)⟩,I2.bs,Nat.le_trans I2.ok.bsz I2.sz,fun b o e hb=>?_,fun b hb z=>?_,I2.stack,I2.stkFree⟩
  ·have hx:(relabel scope X.env).names.lookup x=some .cell∨(relabel scope X.env).names.lookup x=some .free:=hx
   exact GR x (sk sc.nocell hx)
  ·rcases(f2 b hb).2.2.2.1 with z | z
   ·exact I2.ok.noex b o e z
   ·exact absurd (Nat.lt_of_lt_of_le (Heap.lt_size (I2.ok.bs b o e).1) z) (Nat.lt_irrefl _)
  ·rcases List.mem_cons.mp (I2.stkSub b z) with q | q
   ·exact(f2 b hb).2.1 q
   ·exact(f2 b hb).2.2.1 q
 have KL:∀b o,H2 b=some o→b≠s₂.heap.objs.size:=fun b o e=>bY e nD
 have EY:∀{H':Hp},(∀b∈fp,H' b=none)→∀b∈fp,s8 X' [] H' b:=fun Nv b hb=>by
  subst tR
  refine⟨Nv b hb,Nat.ne_of_lt (Nat.lt_trans (fl b hb) yD),fun z=>Mg.exfs b hb z, .inl hb,fun x c h=>(f2 b hb).2.2.2.2.1 x c (zY _ _ h),fun p hp=>?_⟩
  rw[List.append_nil] at hp
  exact(f2 b hb).2.2.2.2.2 p hp
 have I0:Inv X' [] (List.replicate (max n 1) none++σ) (upd H2 s₂.heap.objs.size (.lst [])) {s₂ with heap:=h₁,toks:=s₂.toks+([]:List (Str×Value)).length}:=by
  subst tR
  have Kk:HOk X.prog X.w (upd H2 s₂.heap.objs.size (.lst [])) h₁:=I2.hok.laid old (Nat.le_refl _) ⟨Nat.zero_le _,[],_, .nil,kS⟩
  refine⟨Mg,rfl,I2.bare,Un.laid old (Nat.le_refl _) nD,⟨_,Fh,fun i x v h1 h2 h3=>?_⟩,fun x c h=>?_,?_,fun x c h=>?_,fun p hp=>?_,Kk,?_⟩
  ·by_cases hi:i<max n 1
   ·rw[List.getElem?_append_left (by simpa using hi),List.getElem?_replicate,if_pos hi] at h2
    cases h2
   ·have sW:tn.length≤i:=by omega
    have h1:(tn++di tn X.N)[i]? =some x:=h1
    rw[List.getElem?_append_right sW] at h1
    rw[List.getElem?_append_right (by simpa using hi),List.length_replicate,←hn] at h2
    have hN:∃y,X.N[i - tn.length]? =some y∧(x,y)∈(di tn X.N).zip X.N:=by
     have dO:=(List.getElem?_eq_some_iff.mp h1).1
     have HJ:i - tn.length<X.N.length:=by simpa[di] using dO
     refine⟨X.N[i - tn.length],List.getElem?_eq_getElem HJ,?_⟩
     refine List.mem_iff_getElem?.mpr ⟨i - tn.length,?_⟩
     rw[List.getElem?_zip_eq_some]
     exact⟨h1,List.getElem?_eq_getElem HJ⟩
    obtain⟨y,hy,hm⟩:=hN
    have hV:(relabel scope X.env).names.lookup x=some .local∨(relabel scope X.env).names.lookup x=some .cell∨(relabel scope X.env).names.lookup x=some .free:=h3
    rcases sc.vis _ hm with rB | ⟨Ky,Eo⟩
    ·have rB:scope.names.lookup x=none:=rB
     have:(relabel scope X.env).names.lookup x=none:=sm rB
     rw[this] at hV
     rcases hV with z | z | z<;>cases z
    ·have Ky:x=y:=Ky
     subst Ky
     have Eo:scope.names.lookup x=some .free:=Eo
     have hk:=sc.frees (x, .free) (PySem.mem_of_lookup Eo) rfl
     obtain⟨m,Fe,Cd⟩:=I2.loc
     obtain⟨u,ru,lk⟩:=Cd _ x v hy h2 (by rcases hk with z | z;exact .inr (.inl z);exact .inr (.inr z))
     refine⟨u,ru, .inr ⟨?_,?_⟩⟩
     ·rcases hV with z | z | z
      ·exact absurd z (lq Eo)
      ·exact .inl z
      ·exact .inr z
     ·rcases lk with⟨z,_⟩ | ⟨_,c,JY,E5⟩
      ·rcases hk with q | q
       ·rw[show X.env.kindOf x=some .local from z] at q;cases q
       ·rw[show X.env.kindOf x=some .local from z] at q;cases q
      ·obtain⟨c',Cb⟩:=GR x Eo
       have:=zY _ _ Cb
       rw[JY] at this
       cases this
       obtain⟨o,ho,hd⟩:=E5
       exact⟨c,Cb,o,old _ _ ho,hd⟩
  ·obtain⟨v,o,ho,hd⟩:=I2.cell x c (zY _ _ h)
   exact⟨v,o,old _ _ ho,hd⟩
  ·show upd H2 s₂.heap.objs.size (.lst []) HL.objs.size=none
   rw[ax (Nat.ne_of_gt yD)]
   exact nC
  ·have E6:=zY _ _ h
   obtain⟨v,q⟩:=I2.cell x c E6
   rw[ax (Nat.ne_of_lt q.lt)]
   exact I2.freeC x c E6
  ·rw[List.append_nil] at hp
   obtain⟨e,nn,ne,nf,d⟩:=I2.pin p hp
   have dO:=Heap.lt_size e
   refine⟨old _ _ e,by rw[ax (Nat.ne_of_lt dO)];exact nn,Nat.ne_of_lt (Nat.lt_trans dO yD),fun z=>?_,d⟩
   rcases List.mem_cons.mp (I2.stkSub p.1 z) with q | q
   ·exact ne q
   ·exact nf q
  ·show (List.replicate (max n 1) none++σ).length=(tn++di tn X.N).length
   rw[List.length_append,List.length_append,List.length_replicate,hn,show (di tn X.N).length=X.N.length from by simp[di],I2.len]
 have loop:∀s₃:Shared,s₃={s₂ with heap:=h₁,toks:=s₂.toks+([]:List (Str×Value)).length}→
  codeAny (model X.prog X.w) X.A (.compLoop (.ListComp elt [⟨tg,iter,ifs,0⟩] scope pos) 0 (.ref ia) (.ref s₂.heap.objs.size) (compEnvC scope cl HL.objs.size X.env))
   (RR (.ref s₂.heap.objs.size) HL.objs.size) s₃:=by
  intro s₃ NG
  have Ac:X'.env=compEnvC scope cl HL.objs.size X.env:=by subst tR;rfl
  have hA:X'.A=X.A:=by subst tR;rfl
  have hP:X'.prog=X.prog:=by subst tR;rfl
  have hw:X'.w=X.w:=by subst tR;rfl
  have hK:X'.K=X.K:=by subst tR;rfl
  have NT:X'.xe=fun _ _=>False:=by subst tR;rfl
  have Em:X'.calm=true:=by subst tR;exact hc
  have M6:X'.fs=mG X.stack:=by subst tR;rfl
  have hex:X'.ex=fp:=by subst tR;rfl
  have MN:X'.H₀=H2:=by subst tR;rfl
  have LY:X'.s₀=s₂:=by subst tR;rfl
  have pass:∀{α:Type}{t:Sem α}{P:α→Shared→Prop}{E':Value→Shared→Prop}{s:Shared},wpAny (model X'.prog X'.w) X'.A t P X'.xe s→wpAny (model X.prog X.w) X.A t P E' s:=fun {α t P E' s} h=>by
   rw[hP,hw,hA,NT] at h
   exact wpAny_mono h (fun _ _ q=>q) fun _ _ q=>q.elim
  refine yy (fun m s'=>∃(i:Nat) (F' H':Hp) (vs:List V) (ys:List D) (σt:St),m=ds.length - i∧i≤ds.length∧σt.length=max n 1∧Inv X' [] (σt++σ) H' s'∧Mo i s'.heap∧(∀b∈fp,H' b=none)∧Ext F2 H2 F' H'∧
   H' s₂.heap.objs.size=some (.lst vs)∧F' s₂.heap.objs.size=none∧DenL X.K F' ys vs∧dg (g0 n δt δe ρ) ds=(dg (g0 n δt δe ρ) (ds.drop i)>>=fun r=>M.ret (ys++r))) ?_ ds.length ?_
  ·rintro m s' ⟨i,F',H',vs,ys,σt,rfl,J9,NY,I',o5,Lu,vN,hD,fD,Jt,heq⟩
   by_cases dO:i<ds.length
   ·
    obtain⟨d,hd⟩:∃d,ds[i]? =some d:=⟨_,List.getElem?_eq_getElem dO⟩
    obtain⟨J6,Fm⟩:=(L9 F' H' i vN.ff vN.fh).1 d hd
    obtain⟨o,ho,HD⟩:=vI hd heq hR
    have Kz:ys.length≤lim:=by
     rw[heq] at hR
     obtain⟨r,_,hr⟩:=gu hR
     rw[←fE hr,List.length_append] at LC
     omega
    obtain⟨ts,NK,ho⟩:=gu ho
    refine pass ?_
    rw[hP,hw]
    refine cg (T.item X' hP hw hK Em i [] s' (σt++σ) H' X'.xe I' (EY Lu) o5 J6) ?_
    rintro r s1 ⟨u,rfl,h1⟩
    refine pass ?_
    rw[hP,hw]
    refine cg h1 ?_
    rintro _ s2 ⟨x,H3,I3,rx,y3,G0,Jh⟩
    obtain⟨F3,B_,q3⟩:=Fm x H3 y3
    have Ly:H3 s₂.heap.objs.size=some (.lst vs):=B_.hh _ _ hD
    have MG:F3 s₂.heap.objs.size=none:=by rw[B_.old hD (fun _ z=>nomatch z)];exact fD
    have I3':=I3.pinned (EY Jh) (T.obj _ _ G0)
    have xt:∀{σ7:St}{H7:Hp}{s7:Shared},Inv X' ([]++oO fp s2.heap) σ7 H7 s7→Mo (i+1) s7.heap∧∀b∈fp,H7 b=none:=fun {σ7 H7 s7} I7=>
     ⟨T.keep _ _ _ G0 fun b hb o e=>(I7.pin (b,o) (List.mem_append_right _ (List.mem_append_right _ (gL hb e)))).1,fun b hb=>by
      obtain⟨o,e,_⟩:=T.obj _ _ G0 b hb
      exact(I7.pin (b,o) (List.mem_append_right _ (List.mem_append_right _ (gL hb e)))).2.1⟩
    have M8:zE X' tg n σ:=by subst tR;exact hg _ _ _ _ _ _ _
    have NI:kO X' ifs δt:=by subst tR;exact ht _ _ _ _ _ _
    have M0:PD X' (fun _ _=>False) elt δe:=by subst tR;exact he _ _ _ _ _ _
    refine pass ?_
    rw[←Ac]
    refine cg (M8 _ s2 (σt++σ) F3 H3 d ts x u I3' B_.fh (by rw[←NY];simp) rx (by rw[hK];exact q3) NK) ?_
    rintro _ s4 ⟨vt,I4,dt⟩
    rw[hK] at dt
    have S4:StE X.K F3 H3 (vt.map some++σ) (ts.map (fun t=>some (Sl.fz t))++ρ):=StE.cons ((S.ext e2).ext (vN.trans B_)) dt
    obtain⟨b,hb,ho⟩:=gu ho
    refine pass ?_
    try rw[←Ac]
    refine cg (NI _ s4 _ H3 (fun b' H5=>b'=b∧∃F5,Ext F3 H3 F5 H5) I4 ⟨F3,_,by rw[hK];exact S4,by rw[hb];exact WPB.take⟩) ?_
    rintro b' s5 ⟨H5,I5,rfl,F5,ET⟩
    have JS:H5 s₂.heap.objs.size=some (.lst vs):=ET.hh _ _ Ly
    have Lq:F5 s₂.heap.objs.size=none:=by rw[ET.old Ly (fun _ z=>nomatch z)];exact MG
    cases b' with
    |false=>
     rw[if_neg Bool.false_ne_true] at ho⊢
     obtain rfl:=fE ho
     refine⟨ds.length - (i+1),by omega,i+1,F5,H5,vs,ys,vt.map some,rfl,dO,?_,I5.unpinned,(xt I5).1,(xt I5).2,vN.trans (B_.trans ET),JS,Lq,DenL.mono (B_.trans ET).ff Jt,HD⟩
     have h1:=I5.len
     have h2:=I3.len
     rw[List.length_append] at h1 h2
     omega
    |true=>
     rw[if_pos rfl] at ho⊢
     obtain⟨yv,hy,ho⟩:=gu ho
     obtain rfl:=fE ho
     refine pass ?_
     try rw[←Ac]
     refine cg (M0 _ s5 _ H5 (fun v H6=>∃F6,Ext F5 H5 F6 H6∧Den X.K F6 yv v) I5 ⟨F5,_,by rw[hK];exact S4.ext ET,by rw[hy,hK];exact WP.take⟩) ?_
     rintro xv s6 ⟨v,H6,I6,rv,F6,Jg,qv⟩
     have MM:H6 s₂.heap.objs.size=some (.lst vs):=Jg.hh _ _ JS
     have Lr:F6 s₂.heap.objs.size=none:=by rw[Jg.old JS (fun _ z=>nomatch z)];exact Lq
     have NQ:vs.length<sizeLine:=by
      have:=Jt.len
      have:=e9
      omega
     refine pass ?_
     refine cg (qo _ s6 _ H6 (.ref s₂.heap.objs.size) [v] (.ref s₂.heap.objs.size) [xv] (fun _ H7=>H7=upd H6 s₂.heap.objs.size (.lst (vs++[v]))) I6 rfl (.cons rv .nil) ⟨_,vs,v,rfl,rfl,MM,NQ,rfl⟩) ?_
     rintro _ s7 ⟨_,H7,I7,_,rfl⟩
     have MF:Ext F2 H2 F6 (upd H6 s₂.heap.objs.size (.lst (vs++[v]))):=by
      have e:=vN.trans (B_.trans (ET.trans Jg))
      refine⟨fun b u q=>?_,e.ff,fun b u q=>?_,e.new⟩
      ·rw[ax (KL b u q)];exact e.hh b u q
      ·rw[ax (fun z=>by rw[z,Lr] at q;cases q)];exact e.fh b u q
     refine⟨ds.length - (i+1),by omega,i+1,F6,_,vs++[v],ys++[yv],vt.map some,rfl,dO,?_,I7.unpinned,(xt I7).1,(xt I7).2,MF,aD,Lr,
      DenL.append (DenL.mono (B_.trans (ET.trans Jg)).ff Jt) (.cons qv .nil),HD⟩
     have h1:=I5.len
     have h2:=I3.len
     rw[List.length_append] at h1 h2
     omega
   ·
    have hi:i=ds.length:=by omega
    subst hi
    rw[List.drop_length] at heq
    have MQ:R=ys:=by
     rw[heq] at hR
     have hR:M.ret (ys++[])=M.ret R:=hR
     rw[←fE hR,List.append_nil]
    subst MQ
    refine pass ?_
    rw[hP,hw]
    refine cg (T.done X' hP hw hK Em ds.length [] s' (σt++σ) H' X'.xe I' (EY Lu) o5 ((L9 F' H' ds.length vN.ff vN.fh).2 (Nat.le_refl _))) ?_
    rintro r s1 ⟨rfl,I1⟩
    obtain⟨m,hm,_⟩:=I1.loc
    rw[Ac] at hm
    have ML:H' HL.objs.size=none:=by
     have:=I1.free
     rw[Ac] at this
     exact this
    have u:=I1.base
    rw[M6,hex,MN,LY] at u
    have Km:s1.os=s₂.os:=by have:=I1.os;rw[LY] at this;exact this
    have HE:=I1.hok
    rw[hP,hw] at HE
    refine MP s1 HL.objs.size s₂.heap.objs.size H' (I2.call' (s':=s1) (ch:=fp) Km u HE I1.bare (fun b hb=>⟨(f2 b hb).2.2.2.1,(f2 b hb).2.1,(f2 b hb).2.2.2.2.1,(f2 b hb).2.2.2.2.2⟩)) ?_
     ⟨⟨m,hm⟩,ML,Nat.ne_of_gt (Nat.lt_trans I2.lt yD),Nat.le_trans I2.sz (Nat.le_of_lt yD),fun x c q z=>?_,fun p hp z=>?_⟩
    rotate_left
    ·obtain⟨v,q'⟩:=I2.cell x c q
     exact absurd (Nat.lt_trans q'.lt yD) (by rw[z];exact Nat.lt_irrefl _)
    ·exact absurd (Nat.lt_trans (Heap.lt_size (I2.pin p hp).1) yD) (by rw[z];exact Nat.lt_irrefl _)
    refine WP.fin w2 (F':=upd F' s₂.heap.objs.size (.lst vs)) ⟨vN.hh,fun b u q=>?_,fun b u q=>?_,fun a ha=>?_⟩ ⟨_,vs,rfl,aD,DenL.mono (fun b u q=>?_) Jt,LC⟩
    ·rw[ax (fun z=>by have:=vN.ff b u q;rw[z,fD] at this;cases this)];exact vN.ff b u q
    ·by_cases z:b=s₂.heap.objs.size
     ·rw[z,aD] at q;rw[z,hD];exact q
     ·rw[ax z] at q;exact vN.fh b u q
    ·rcases vN.new a ha with q | q
     ·exact .inl (by rw[ax (fun z=>ha (by rw[z];exact nD))];exact q)
     ·exact .inr q
    ·rw[ax (fun z=>by rw[z,fD] at q;cases q)];exact q
  ·rw[NG]
   refine⟨0,F2,_,[],[],List.replicate (max n 1) none,by simp,Nat.zero_le _,by simp,I0,T.keep _ _ _ IY (fun b hb o e=>old b o e),fun b hb=>?_,⟨fun b u q=>?_,Same.refl _,fun b u q=>?_,fun _ _=> .inl rfl⟩,aD,Same.free e2.fh nD,rfl,?_⟩
   ·rw[ax (Nat.ne_of_lt (fl b hb))];exact(f2 b hb).1
   ·rw[ax (KL b u q)];exact q
   ·rw[ax (KL b u (e2.fh b u q))];exact e2.fh b u q
   ·rw[List.drop_zero]
    rcases(dg (g0 n δt δe ρ) ds).cs with hq | ⟨m,hq⟩ | ⟨R,hq⟩<;>rw[hq]<;>rfl
 exact codeAny_compStart_list (loop _ rfl) (T.self X.A 0 _ _ _ (T.keep _ _ _ IY (fun b hb o e=>old b o e)) (loop _ rfl))
theorem Inv.block{X:Cx}{pins:List (Addr×Obj)}{σ:St}{H':Hp}{s1:Shared}{C:Addr}{h':Heap}(I:Inv X pins σ H' s1)(b:BlockEnd X pins C H' s1)(Cf:Heap.SameBut C s1.heap h'):Inv X pins σ H' {s1 with heap:=h'}:=
 I.turned (t':=s1.toks) (fun a o ha e=>(Cf.2 a ha).trans e) b.free b.nl (.inr b.nw) b.nc b.np
section
variable{X:Cx}{Xw:Nat→Hp→Prop}{elt iter tg:Expr}{ifs:List Expr}{scope:Scope}{pos:Pos}{tn:List Str}{n:Nat}{δi:DA}{δt:DT}{δe:DE}
theorem fB(sc:CompSc X scope tn)(hn:tn.length=max n 1)(hc:X.calm=true)(hi:yi X Xw tg iter δi)
 (hg:∀pins cl C fp s₂ H σ,zE (jh X scope tn pins cl C fp s₂ H) tg n σ)
 (ht:∀pins cl C fp s₂ H,kO (jh X scope tn pins cl C fp s₂ H) ifs δt)
 (he:∀pins cl C fp s₂ H,PD (jh X scope tn pins cl C fp s₂ H) (fun _ _=>False) elt δe)
 (hs:∀x,foldedSetIterable iter X.env x=pure x:=by intro _;rfl):
 PD X Xw (.ListComp elt [⟨tg,iter,ifs,0⟩] scope pos) (bt n δi δt δe):=by
 intro pins s σ H Q I ⟨F,ρ,S,w⟩
 obtain⟨cl,Al,zY,GR⟩:=m7 (scope:=scope) (env:=X.env) fun y hy hf=>I.ok.has y.1 (sc.frees y hy hf)
 rw[eval_ListComp]
 refine wpAny_comprehension_free (use:=none) rfl hs Al sc.kind sc.names (tq (RR:=fun acc C=>compPost (model X.prog X.w) X.A X.xe none (EP X pins σ Q) acc C) sc hn hc hi hg ht he I S w zY GR fun s1 C D H' I1 q b=>?_)
 obtain⟨m,hm⟩:=b.ns
 exact⟨m,hm,fun h' Cf=>⟨.ref D,H',Inv.block I1 b Cf,rfl,q⟩⟩
end
inductive Out where
 |nx (ρ:aY) | rt (d:D)
abbrev DS:=aY→M Out
structure StOk (K:W.Frag) (F₀ H₀ F H:Hp) (σ:St) (ρ:aY):Prop where
 ext:Ext F₀ H₀ F H
 st:StE K F H σ ρ
 len:ρ.length=σ.length
 own:∀(i:Nat) (c:C) (a:Addr),ρ[i]? =some (some (.ow c))→σ[i]? =some (some (.ref a))→H₀ a=none
 sep:∀(i j:Nat) (c c':C) (a:Addr),ρ[i]? =some (some (.ow c))→ρ[j]? =some (some (.ow c'))→σ[i]? =some (some (.ref a))→σ[j]? =some (some (.ref a))→i=j
def WPS(K:W.Frag)(Xw:Nat→Hp→Prop)(F₀ H₀:Hp)(m:M Out)(Dn:Ends):Prop:=
 match m with
 |none=>False
 |some (.ok (.nx ρ))=>∀σ F H,StOk K F₀ H₀ F H σ ρ→Dn.nx σ H
 |some (.ok (.rt d))=>∀v F H,Ext F₀ H₀ F H→Den K F d v→Dn.rt v H
 |some (.ex n)=>∀F H,Ext F₀ H₀ F H→Xw n H
def tS(K:W.Frag)(Xw:Nat→Hp→Prop)(F₀ H₀:Hp)(τ:DS):TS:=fun Dn σ H=>∃F ρ,StOk K F₀ H₀ F H σ ρ∧WPS K Xw F₀ H₀ (τ ρ) Dn
def jR(X:Cx)(Xw:Nat→Hp→Prop)(st:Stmt)(τ:DS):Prop:=∀F₀ H₀,PS X st (tS X.K Xw F₀ H₀ τ)
def PSDs(X:Cx)(Xw:Nat→Hp→Prop)(st:List Stmt)(τ:DS):Prop:=∀F₀ H₀,PSs X st (tS X.K Xw F₀ H₀ τ)
theorem PS.weak{X:Cx}{st:Stmt}{t t':TS}(h:PS X st t)(k:∀D σ H,t' D σ H→t D σ H):PS X st t':=fun pins s σ H D I w=>h pins s σ H D I (k D σ H w)
theorem PSs.weak{X:Cx}{st:List Stmt}{t t':TS}(h:PSs X st t)(k:∀D σ H,t' D σ H→t D σ H):PSs X st t':=fun pins s σ H D I w=>h pins s σ H D I (k D σ H w)
section
variable{K:W.Frag}{Xw:Nat→Hp→Prop}{F₀ H₀ F H F' H':Hp}{σ:St}{ρ:aY}
theorem StOk.ext'(s:StOk K F₀ H₀ F H σ ρ)(e:Ext F H F' H'):StOk K F₀ H₀ F' H' σ ρ:=⟨s.ext.trans e,s.st.ext e,s.len,s.own,s.sep⟩
theorem StOk.set(s:StOk K F₀ H₀ F H σ ρ){i:Nat}{d:D}{v:V}(h:Den K F d v):StOk K F₀ H₀ F H (σ.set i (some v)) (ρ.set i (some (.fz d))):=by
 have hl:=s.len
 have get:∀(j:Nat) (sl:Sl),(ρ.set i (some (.fz d)))[j]? =some (some sl)→(j=i∧i<ρ.length∧sl= .fz d)∨(j≠i∧ρ[j]? =some (some sl)):=fun j sl e=>by
  by_cases hj:j=i
  ·subst hj
   have hi:j<ρ.length:=by
    have:=(List.getElem?_eq_some_iff.mp e).1
    simpa using this
   rw[List.getElem?_set_self hi] at e
   cases e
   exact .inl ⟨rfl,hi,rfl⟩
  ·rw[List.getElem?_set_ne (Ne.symm hj)] at e
   exact .inr ⟨hj,e⟩
 refine⟨s.ext,⟨s.st.fh,fun j sl e=>?_⟩,by simp[hl],fun j c a e e'=>?_,fun j k c c' a e1 e2 e3 e4=>?_⟩
 ·rcases get j sl e with⟨rfl,hi,rfl⟩ | ⟨hj,e⟩
  ·exact⟨v,by rw[List.getElem?_set_self (by omega)],h⟩
  ·obtain⟨u,h1,h2⟩:=s.st.den j sl e
   exact⟨u,by rw[List.getElem?_set_ne (Ne.symm hj)];exact h1,h2⟩
 ·rcases get j _ e with⟨_,_,z⟩ | ⟨hj,e⟩
  ·cases z
  ·rw[List.getElem?_set_ne (Ne.symm hj)] at e'
   exact s.own j c a e e'
 ·rcases get j _ e1 with⟨_,_,z⟩ | ⟨hj,e1⟩
  ·cases z
  ·rcases get k _ e2 with⟨_,_,z⟩ | ⟨hk,e2⟩
   ·cases z
   ·rw[List.getElem?_set_ne (Ne.symm hj)] at e3
    rw[List.getElem?_set_ne (Ne.symm hk)] at e4
    exact s.sep j k c c' a e1 e2 e3 e4
theorem StOk.setNew(s:StOk K F₀ H₀ F H σ ρ){i:Nat}{a:Addr}{o:HO}{c₀:C}(n:H a=none)(h:DenC K F c₀ o):
 StOk K F₀ H₀ F (upd H a o) (σ.set i (some (.ref a))) (ρ.set i (some (.ow c₀))):=by
 have hle:=s.len
 have e0:=Ext.free (o:=o) s.st.fh n
 have nF:F a=none:=Same.free s.st.fh n
 have get:∀(j:Nat) (sl:Sl),(ρ.set i (some (.ow c₀)))[j]? =some (some sl)→(j=i∧i<ρ.length∧sl= .ow c₀)∨(j≠i∧ρ[j]? =some (some sl)):=fun j sl e=>by
  by_cases hj:j=i
  ·subst hj
   have hi:j<ρ.length:=by
    have:=(List.getElem?_eq_some_iff.mp e).1
    simpa using this
   rw[List.getElem?_set_self hi] at e
   cases e
   exact .inl ⟨rfl,hi,rfl⟩
  ·rw[List.getElem?_set_ne (Ne.symm hj)] at e
   exact .inr ⟨hj,e⟩
 have old:∀(j:Nat) (c:C) (b:Addr),ρ[j]? =some (some (.ow c))→σ[j]? =some (some (.ref b))→b≠a:=fun j c b e e' z=>by
  obtain⟨u,h1,b',o,h2,h3,_⟩:=s.st.den j _ e
  rw[h1] at e'
  cases e'
  cases h2
  rw[z,n] at h3
  cases h3
 refine⟨s.ext.trans e0,⟨e0.fh,fun j sl e=>?_⟩,by simp[hle],fun j c b e e'=>?_,fun j k c c' b e1 e2 e3 e4=>?_⟩
 ·rcases get j sl e with⟨rfl,hi,rfl⟩ | ⟨hj,e⟩
  ·exact⟨.ref a,by rw[List.getElem?_set_self (by omega)],a,_,rfl,aD,nF,h⟩
  ·obtain⟨u,h1,h2⟩:=s.st.den j sl e
   exact⟨u,by rw[List.getElem?_set_ne (Ne.symm hj)];exact h1,h2.ext e0⟩
 ·rcases get j _ e with⟨rfl,hi,_⟩ | ⟨hj,e⟩
  ·rw[List.getElem?_set_self (by omega)] at e'
   cases e'
   exact Same.free s.ext.hh n
  ·rw[List.getElem?_set_ne (Ne.symm hj)] at e'
   exact s.own j c b e e'
 ·rcases get j _ e1 with⟨rfl,hi,_⟩ | ⟨hj,e1⟩
  ·rw[List.getElem?_set_self (by omega)] at e3
   cases e3
   rcases get k _ e2 with⟨rfl,_,_⟩ | ⟨hk,e2⟩
   ·rfl
   ·rw[List.getElem?_set_ne (Ne.symm hk)] at e4
    exact absurd rfl (old k c' a e2 e4)
  ·rcases get k _ e2 with⟨Kd,hi,_⟩ | ⟨hk,e2⟩
   ·rw[Kd,List.getElem?_set_self (by omega)] at e4
    cases e4
    rw[List.getElem?_set_ne (Ne.symm hj)] at e3
    exact absurd rfl (old j c a (by assumption) e3)
   ·rw[List.getElem?_set_ne (Ne.symm hj)] at e3
    rw[List.getElem?_set_ne (Ne.symm hk)] at e4
    exact s.sep j k c c' b e1 e2 e3 e4
theorem StOk.chg(s:StOk K F₀ H₀ F H σ ρ){i:Nat}{a:Addr}{c c₀:C}{o₀:HO}(hi:ρ[i]? =some (some (.ow c)))(ha:σ[i]? =some (some (.ref a)))(h:DenC K F c₀ o₀):
 StOk K F₀ H₀ F (upd H a o₀) σ (ρ.set i (some (.ow c₀))):=by
 have hle:=s.len
 have h0:=s.own i c a hi ha
 obtain⟨u,q1,a',o,q2,q3,q4,q5⟩:=s.st.den i _ hi
 rw[ha] at q1
 cases q1
 cases q2
 have J8:i<ρ.length:=(List.getElem?_eq_some_iff.mp hi).1
 have get:∀(j:Nat) (sl:Sl),(ρ.set i (some (.ow c₀)))[j]? =some (some sl)→(j=i∧sl= .ow c₀)∨(j≠i∧ρ[j]? =some (some sl)):=fun j sl e=>by
  by_cases hj:j=i
  ·subst hj
   rw[List.getElem?_set_self J8] at e
   cases e
   exact .inl ⟨rfl,rfl⟩
  ·rw[List.getElem?_set_ne (Ne.symm hj)] at e
   exact .inr ⟨hj,e⟩
 have fh:Same F (upd H a o₀):=fun b o e=>by
  rw[ax (fun z=>by rw[z,q4] at e;cases e)];exact s.st.fh b o e
 refine⟨⟨fun b o e=>?_,s.ext.ff,fh,s.ext.new⟩,⟨fh,fun j sl e=>?_⟩,by simp[hle],fun j c' b e e'=>?_,fun j k c1 c2 b e1 e2 e3 e4=>?_⟩
 ·rw[ax (fun z=>by rw[z,h0] at e;cases e)];exact s.ext.hh b o e
 ·rcases get j sl e with⟨rfl,rfl⟩ | ⟨hj,e⟩
  ·exact⟨.ref a,ha,a,_,rfl,aD,q4,h⟩
  ·obtain⟨u,h1,h2⟩:=s.st.den j sl e
   refine⟨u,h1,?_⟩
   cases sl with
   |fz d=>exact h2
   |ow c'=>
    obtain⟨b,o',r1,r2,r3,r4⟩:=h2
    refine⟨b,o',r1,?_,r3,r4⟩
    rw[ax (fun z=>hj (s.sep j i c' c a e hi (by rw[h1,r1,z]) ha))];exact r2
 ·rcases get j _ e with⟨rfl,_⟩ | ⟨hj,e⟩
  ·rw[ha] at e';cases e';exact h0
  ·exact s.own j c' b e e'
 ·have k1:∃c,ρ[j]? =some (some (.ow c)):=by
   rcases get j _ e1 with⟨rfl,_⟩ | ⟨_,e⟩
   ·exact⟨c,hi⟩
   ·exact⟨_,e⟩
  have k2:∃c,ρ[k]? =some (some (.ow c)):=by
   rcases get k _ e2 with⟨rfl,_⟩ | ⟨_,e⟩
   ·exact⟨c,hi⟩
   ·exact⟨_,e⟩
  obtain⟨_,k1⟩:=k1
  obtain⟨_,k2⟩:=k2
  exact s.sep j k _ _ b k1 k2 e3 e4
def frz(i:Nat)(ρ:aY):aY:=match ρ[i]? with
 |some (some (.ow c))=>ρ.set i (some (.fz c.d))
 |_=>ρ
theorem StOk.frz(s:StOk K F₀ H₀ F H σ ρ)(i:Nat)(obj:Addr→Obj):(∃a o,H a=some o∧DenC K F (ρ[i]?.elim (.lst []) fun x=>x.elim (.lst []) fun y=>match y with | .ow c=>c | _=> .lst []) o∧σ[i]? =some (some (.ref a))∧StOk K F₀ H₀ (upd F a (mn (obj a) o)) (upd H a (mn (obj a) o)) σ (frz i ρ))∨frz i ρ=ρ:=by
 unfold L3.frz
 split
 ·rename_i c₀ hi
  have hle:=s.len
  obtain⟨u,ha,a,o,rfl,q3,q4,LM⟩:=s.st.den i _ hi
  refine .inl ⟨a,o,q3,by rw[hi];exact LM,ha,?_⟩
  have h0:=s.own i _ a hi ha
  have J8:i<ρ.length:=(List.getElem?_eq_some_iff.mp hi).1
  have ff:Same F (upd F a (mn (obj a) o)):=fun b o e=>by rw[ax (fun z=>by rw[z,q4] at e;cases e)];exact e
  have fh:Same (upd F a (mn (obj a) o)) (upd H a (mn (obj a) o)):=fun b o e=>by
   by_cases z:b=a
   ·rw[z,aD] at e⊢;exact e
   ·rw[ax z] at e⊢;exact s.st.fh b o e
  have get:∀(j:Nat) (sl:Sl),(ρ.set i (some (.fz c₀.d)))[j]? =some (some sl)→(j=i∧sl= .fz c₀.d)∨(j≠i∧ρ[j]? =some (some sl)):=fun j sl e=>by
   by_cases hj:j=i
   ·subst hj
    rw[List.getElem?_set_self J8] at e
    cases e
    exact .inl ⟨rfl,rfl⟩
   ·rw[List.getElem?_set_ne (Ne.symm hj)] at e
    exact .inr ⟨hj,e⟩
  refine⟨⟨fun b u q=>?_,s.ext.ff.trans ff,fh,fun b hb=>?_⟩,⟨fh,fun j sl e=>?_⟩,by simp[hle],fun j c' b e e'=>?_,fun j k c1 c2 b e1 e2 e3 e4=>?_⟩
  ·rw[ax (fun z=>by rw[z,h0] at q;cases q)];exact s.ext.hh b u q
  ·rcases s.ext.new b hb with q | q
   ·exact .inl (by rw[ax (fun z=>hb (by rw[z];exact h0))];exact q)
   ·exact .inr q
  ·rcases get j sl e with⟨rfl,rfl⟩ | ⟨hj,e⟩
   ·exact⟨.ref a,ha,DenC.den LM ff aD⟩
   ·obtain⟨u,h1,h2⟩:=s.st.den j sl e
    refine⟨u,h1,?_⟩
    cases sl with
    |fz d=>exact Den.mono ff h2
    |ow c'=>
     obtain⟨b,o',r1,r2,r3,r4⟩:=h2
     have fm:b≠a:=fun z=>hj (s.sep j i c' _ a e hi (by rw[h1,r1,z]) ha)
     exact⟨b,o',r1,by rw[ax fm];exact r2,by rw[ax fm];exact r3,DenC.mono ff r4⟩
  ·rcases get j _ e with⟨_,z⟩ | ⟨hj,e⟩
   ·cases z
   ·exact s.own j c' b e e'
  ·rcases get j _ e1 with⟨_,z⟩ | ⟨_,e1⟩
   ·cases z
   ·rcases get k _ e2 with⟨_,z⟩ | ⟨_,e2⟩
    ·cases z
    ·exact s.sep j k _ _ b e1 e2 e3 e4
 ·exact .inr rfl
end
def join(F H:Hp):Hp:=fun a=>match F a with
 |some o=>some o
 |none=>H a
theorem StOk.rebase{K:W.Frag}{F₀ H₀ F H:Hp}{σ:St}{ρ:aY}(s:StOk K F₀ H₀ F H σ ρ):StOk K F (join F H₀) F H σ ρ∧∀F' H',Ext F (join F H₀) F' H'→Ext F₀ H₀ F' H':=by
 have hj:Same (join F H₀) H:=fun b o e=>by
  unfold join at e
  cases q:F b with
  |some u=>rw[q] at e;cases e;exact s.st.fh b _ q
  |none=>rw[q] at e;exact s.ext.hh b o e
 have h0:Same H₀ (join F H₀):=fun b o e=>by
  unfold join
  cases q:F b with
  |some u=>
   have h1:=s.st.fh b u q
   rw[s.ext.hh b o e] at h1
   exact h1.symm
  |none=>exact e
 refine⟨⟨⟨hj,Same.refl _,s.st.fh,fun _ _=> .inl rfl⟩,s.st,s.len,fun i c a e e'=>?_,s.sep⟩,fun F' H' x=>⟨h0.trans x.hh,s.ext.ff.trans x.ff,x.fh,fun a ha=>?_⟩⟩
 ·have h1:=s.own i c a e e'
  obtain⟨v,q1,a',o,q2,q3,q4,_⟩:=s.st.den i _ e
  rw[e'] at q1
  cases q1
  cases q2
  unfold join
  rw[q4]
  exact h1
 ·have:join F H₀ a≠none:=by
   cases q:H₀ a with
   |none=>exact absurd q ha
   |some o=>rw[h0 a o q];exact fun z=>nomatch z
  rcases s.ext.new a ha with p | p
  ·rcases x.new a this with q | ⟨ts,q⟩
   ·exact .inl (q.trans p)
   ·cases z:H₀ a with
    |none=>exact absurd z ha
    |some o=>
     rw[h0 a o z] at q
     exact .inr ⟨ts,q⟩
  ·exact .inr p
theorem StOk.unbase{K:W.Frag}{F₀ H₀ F U F' H':Hp}{σ:St}{ρ:aY}(k:∀F' H',Ext F U F' H'→Ext F₀ H₀ F' H')(s:StOk K F U F' H' σ ρ)(h:Same H₀ U):StOk K F₀ H₀ F' H' σ ρ:=
 ⟨k _ _ s.ext,s.st,s.len,fun i c a e e'=>Same.free h (s.own i c a e e'),s.sep⟩
theorem yP{K:W.Frag}{F₀ H₀ F H:Hp}{σ:St}{ρ:aY}(s:StOk K F₀ H₀ F H σ ρ):Same H₀ (join F H₀):=fun b o e=>by
 unfold join
 cases q:F b with
 |some u=>
  have h1:=s.st.fh b u q
  rw[s.ext.hh b o e] at h1
  exact h1.symm
 |none=>exact e
theorem Inv.refrz{X:Cx}{pins:List (Addr×Obj)}{σ:St}{H:Hp}{s:Shared}{a:Addr}{o o':HO}(I:Inv X pins σ H s)(e:H a=some o)
 (ho:o'=o∨∃u,o'= .frz ((s.heap.get? a).getD {cls:= .none,data:= .fields #[]}) u∧((∃k,o= .dT k∧u= .dT k)∨∃k,o= .dK k∧u= .dK k)):Inv X pins σ (upd H a o') s:=by
 rcases ho with rfl | ⟨u,rfl,hu⟩
 ·have:upd H a o'=H:=by
   funext b
   by_cases z:b=a
   ·rw[z,aD,e]
   ·rw[ax z]
  rw[this];exact I
 have Nx:o=u:=by rcases hu with⟨k,h1,h2⟩ | ⟨k,h1,h2⟩<;>rw[h1,h2]
 subst Nx
 have nt:∀ts,o≠ .tup ts:=fun ts z=>by rcases hu with⟨k,h1,_⟩ | ⟨k,h1,_⟩<;>rw[h1] at z<;>cases z
 have nf:∀ob v,o≠ .frz ob v:=fun ob v z=>by rcases hu with⟨k,h1,_⟩ | ⟨k,h1,_⟩<;>rw[h1] at z<;>cases z
 have nb:∀p,o≠ .tbl p:=fun p z=>by rcases hu with⟨k,h1,_⟩ | ⟨k,h1,_⟩<;>rw[h1] at z<;>cases z
 have no:∀p,o≠ .own p:=fun p z=>by rcases hu with⟨k,h1,_⟩ | ⟨k,h1,_⟩<;>rw[h1] at z<;>cases z
 have ne:∀b,H b=none→b≠a:=fun b hb z=>by rw[z,e] at hb;cases hb
 have hk:=I.hok a o e
 have dO:=hk.lt
 obtain⟨ob,HP⟩:∃ob,s.heap.get? a=some ob:=by
  rcases hu with⟨k,h1,_⟩ | ⟨k,h1,_⟩
  ·subst h1;obtain⟨_,_,_,_,ob,_,_,q,_⟩:=hk;exact⟨ob,q⟩
  ·subst h1;obtain⟨_,_,_,_,ob,_,_,q,_⟩:=hk;exact⟨ob,q⟩
 rw[HP]
 refine⟨I.ok,I.os,I.bare,⟨I.base.keep,I.base.slot,fun b q h1 h2 h3=>?_,I.base.there,fun b xs q=>?_,fun b q1 v q=>?_,fun b ps q=>?_⟩,I.loc,I.cell,?_,fun x c q=>?_,fun p hp=>?_,fun b v q=>?_,I.len⟩
 ·have:=I.base.free b q h1 h2 h3
  rw[ax (ne b this)];exact this
 ·have:=I.base.tups b xs q
  rw[ax (fun z=>by rw[z,e] at this;exact nt xs (Option.some.inj this))];exact this
 ·have:=I.base.frzs b q1 v q
  rw[ax (fun z=>by rw[z,e] at this;exact nf _ _ (Option.some.inj this))];exact this
 ·obtain⟨m,this⟩:=I.base.tbls b ps q
  exact⟨m,by rw[ax (fun z=>by rw[z,e] at this;exact nb _ (Option.some.inj this))];exact this⟩
 ·rw[ax (ne _ I.free)];exact I.free
 ·rw[ax (ne _ (I.freeC x c q))];exact I.freeC x c q
 ·obtain⟨h1,h2,h3⟩:=I.pin p hp
  exact⟨h1,by rw[ax (ne _ h2)];exact h2,h3⟩
 ·have st:∀{c:Addr}{v:HO},ObjOk X.prog X.w H s.heap c v→ObjOk X.prog X.w (upd H a (.frz ob o)) s.heap c v:=fun {c v} k=>k.stay (fun _ _ _ q=>q)
   (fun c' q=>by rw[ax (fun z=>by rw[z,e] at q;exact no _ (Option.some.inj q))];exact q) fun c' xs q=>by rw[ax (fun z=>by rw[z,e] at q;exact nt _ (Option.some.inj q))];exact q
  by_cases z:b=a
  ·subst z
   rw[show (some ob).getD _=ob from rfl,aD] at q
   cases q
   exact⟨HP,st hk⟩
  ·rw[ax z] at q
   exact st (I.hok b v q)
def av(a b:DS):DS:=fun ρ=>a ρ>>=fun o=>match o with | .nx ρ'=>b ρ' | .rt d=>M.ret (.rt d)
def cC:DS:=fun ρ=>M.ret (.nx ρ)
def a9(δ:DE):DS:=fun ρ=>δ ρ>>=fun d=>M.ret (.rt d)
def ez(δ:DE):DS:=fun ρ=>δ ρ>>=fun _=>M.ret (.nx ρ)
def bB(i:Nat)(δ:DE):DS:=fun ρ=>δ ρ>>=fun d=>M.ret (.nx (ρ.set i (some (.fz d))))
def fN(c:DT)(a b:DS):DS:=fun ρ=>c ρ>>=fun x=>if x then a ρ else b ρ
def vr(i:Nat)(a:DS):DS:=fun ρ=>a (frz i ρ)
def oT(i:Nat):DS:=fun ρ=>M.ret (.nx (ρ.set i (some (.ow (.lst [])))))
def zb(ρ:aY)(i:Nat):Option (List D):=match ρ[i]? with
 |some (some (.ow (.lst ds)))=>some ds
 |_=>none
theorem qw{ρ:aY}{i:Nat}{ds:List D}(h:zb ρ i=some ds):ρ[i]? =some (some (.ow (.lst ds))):=by
 unfold zb at h
 split at h
 ·rename_i ds' e
  cases h
  exact e
 ·cases h
def jf(i:Nat)(δ:DE):DS:=fun ρ=>match zb ρ i with
 |some ds=>δ ρ>>=fun d=>if ds.length<lim then M.ret (.nx (ρ.set i (some (.ow (.lst (ds++[d])))))) else M.stuck
 |none=>M.stuck
def wy(i:Nat)(δ:DE):DS:=fun ρ=>match zb ρ i with
 |some ds=>δ ρ>>=fun d=>lstM d>>=fun es=>if ds.length+es.length≤lim then M.ret (.nx (ρ.set i (some (.ow (.lst (ds++es)))))) else M.stuck
 |none=>M.stuck
def forL(put:D→aY→Option aY)(body:DS):List D→DS
 |[],ρ=>M.ret (.nx ρ)
 |d::ds,ρ=>(match put d ρ with | none=>M.stuck | some ρ1=>body ρ1>>=fun o=>match o with | .nx ρ2=>forL put body ds ρ2 | .rt v=>M.ret (.rt v))
def putN(i:Nat):D→aY→Option aY:=fun d ρ=>some (ρ.set i (some (.fz d)))
def er(put:D→aY→Option aY)(δi:DA)(body:DS):DS:=fun ρ=>δi ρ>>=fun ds=>forL put body ds ρ
section
variable{X:Cx}{Xw:Nat→Hp→Prop}{F₀ H₀:Hp}{st:Stmt}{rest:List Stmt}{τ τ':DS}{e:Expr}{δ:DE}{pos:Pos}
theorem a8:PSDs X Xw [] cC:=fun F₀ H₀=>PSs.weak DC fun D σ H ⟨F,ρ,s,w⟩=>w σ F H s
theorem af(h1:jR X Xw st τ)(h2:PSDs X Xw rest τ'):PSDs X Xw (st::rest) (av τ τ'):=fun F₀ H₀=>PSs.weak (Br (h1 F₀ H₀) (h2 F₀ H₀)) fun D σ H ⟨F,ρ,s,w⟩=>by
 refine⟨F,ρ,s,?_⟩
 unfold av at w
 match τ ρ,w with
 |none,w=>exact w
 |some (.ok (.nx ρ')),w=>exact fun σ' F' H' s'=>⟨F',ρ',s',w⟩
 |some (.ok (.rt d)),w=>exact w
 |some (.ex n),w=>exact w
theorem aq(h1:jR X Xw st τ):PSDs X Xw [st] τ:=fun F₀ H₀=>DD (h1 F₀ H₀)
theorem c_{i:Nat}(h:jR X Xw st τ):jR X Xw st (vr i τ):=fun F₀ H₀ pins sh σ H D I ⟨F,ρ,s,w⟩=>by
 rcases s.frz i (fun a=>(sh.heap.get? a).getD {cls:= .none,data:= .fields #[]}) with⟨a,o,ha,hc,hσ,s'⟩ | e
 ·refine h F₀ H₀ pins sh σ _ D (L3.Inv.refrz I ha ?_) ⟨_,_,s',w⟩
  generalize (ρ[i]?.elim (C.lst []) fun x=>x.elim (.lst []) fun y=>match y with | .ow c=>c | _=> .lst [])=c at hc
  cases c with
  |lst ds=>obtain⟨vs,rfl,_⟩:=hc;exact .inl rfl
  |dct ks ds=>obtain⟨vs,rfl,_⟩:=hc;exact .inr ⟨_,rfl, .inl ⟨_,rfl,rfl⟩⟩
  |dci ks ds=>obtain⟨vs,rfl,_⟩:=hc;exact .inr ⟨_,rfl, .inr ⟨_,rfl,rfl⟩⟩
 ·exact h F₀ H₀ pins sh σ H D I ⟨F,ρ,s,by unfold vr at w;rw[e] at w;exact w⟩
theorem ay(h:PD X Xw e δ):jR X Xw (.Return (some e) pos) (a9 δ):=fun F₀ H₀=>PS.weak (Gp h) fun D σ H ⟨F,ρ,s,w⟩=>by
 refine⟨F,ρ,s.st,?_⟩
 unfold a9 at w
 match δ ρ,w with
 |none,w=>exact w
 |some (.ok d),w=>exact fun v H' F' e' q=>w v F' H' (s.ext.trans e') q
 |some (.ex n),w=>exact fun F' H' e'=>w F' H' (s.ext.trans e')
theorem bq(h:PD X Xw e δ)(hs:swapsWith e none pos.line X.env=pure false:=by rfl):jR X Xw (.Expr e pos) (ez δ):=fun F₀ H₀=>PS.weak (mN h hs) fun D σ H ⟨F,ρ,s,w⟩=>by
 refine⟨F,ρ,s.st,?_⟩
 unfold ez at w
 match δ ρ,w with
 |none,w=>exact w
 |some (.ok d),w=>exact fun v H' F' e' q=>w σ F' H' (s.ext' e')
 |some (.ex n),w=>exact fun F' H' e'=>w F' H' (s.ext.trans e')
theorem aS{i:Nat}{x:Str}{pos':Pos}(hN:X.N.Nodup)(hi:X.N[i]? =some x)(hx:Loc X.env.scope x)(he:PD X Xw e δ)(hf:X.fn x=true∨X.env.scope.names.lookup x=some .local:=by first | exact .inl rfl | exact .inr rfl)
 (hs:swapsWithSole [.Name x pos'] e pos.line X.env=pure false:=by rfl):
 jR X Xw (.Assign [.Name x pos'] e pos) (bB i δ):=fun F₀ H₀=>PS.weak (sf he (bE hN hi hx hf) hs) fun D σ H ⟨F,ρ,s,w⟩=>by
 refine⟨F,ρ,s.st,?_⟩
 unfold bB at w
 match δ ρ,w with
 |none,w=>exact w
 |some (.ok d),w=>exact fun v H' F' e' q=>w _ F' H' ((s.ext' e').set q)
 |some (.ex n),w=>exact fun F' H' e'=>w F' H' (s.ext.trans e')
theorem iu{elt iter tg:Expr}{ifs:List Expr}{scope:Scope}{bj:Pos}{tn:List Str}{n:Nat}{δi:DA}{δt:DT}{δe:DE}{i:Nat}{x:Str}{pos':Pos}(hN:X.N.Nodup)(sW:X.N[i]? =some x)(hx:Loc X.env.scope x)
 (sc:CompSc X scope tn)(hn:tn.length=max n 1)(hc:X.calm=true)(hi:yi X Xw tg iter δi)
 (hg:∀pins cl C fp s₂ H σ,zE (jh X scope tn pins cl C fp s₂ H) tg n σ)
 (ht:∀pins cl C fp s₂ H,kO (jh X scope tn pins cl C fp s₂ H) ifs δt)
 (he:∀pins cl C fp s₂ H,PD (jh X scope tn pins cl C fp s₂ H) (fun _ _=>False) elt δe)
 (hf:X.fn x=true∨X.env.scope.names.lookup x=some .local:=by first | exact .inl rfl | exact .inr rfl)
 (NF:swapsWith (.ListComp elt [⟨tg,iter,ifs,0⟩] scope bj) (some (.Name x pos')) pos.line X.env=pure true:=by rfl)
 (hs:∀x,foldedSetIterable iter X.env x=pure x:=by intro _;rfl):
 jR X Xw (.Assign [.Name x pos'] (.ListComp elt [⟨tg,iter,ifs,0⟩] scope bj) pos) (bB i (bt n δi δt δe)):=fun F₀ H₀ pins s σ H D I ⟨F,ρ,S,w⟩=>by
 obtain⟨cl,Al,zY,GR⟩:=m7 (scope:=scope) (env:=X.env) fun y hy hf=>I.ok.has y.1 (sc.frees y hy hf)
 have w':WP X.K Xw F H (bt n δi δt δe ρ) (fun v H'=>D.nx (σ.set i (some v)) H'):=by
  have w:WPS X.K Xw F₀ H₀ (bt n δi δt δe ρ>>=fun d=>M.ret (.nx (ρ.set i (some (.fz d))))) D:=w
  match bt n δi δt δe ρ,w with
  |none,w=>exact w
  |some (.ok d),w=>exact fun v H' F' e' q=>w _ F' H' ((S.ext' e').set q)
  |some (.ex n),w=>exact fun F' H' e'=>w F' H' (S.ext.trans e')
 rw[exec_Assign_Name_used _ _ _ _ NF]
 refine wpAny_bind (wpAny_standAt (wpAny_bind ?_))
 show wpAny _ X.A (do let _←comprehension (.ListComp elt [⟨tg,iter,ifs,0⟩] scope bj) scope X.env _ (newList []) false (eval iter X.env) (some (assign (.Name x pos') X.env))) _ _ s
 refine wpAny_bind (wpAny_mono (wpAny_comprehension_free (use:=some (assign (.Name x pos') X.env)) (Q:=fun _ s'=>SP X pins D .next s') rfl hs Al sc.kind sc.names
  (tq (RR:=fun acc C=>compPost (model X.prog X.w) X.A X.xe (some (assign (.Name x pos') X.env)) (fun _ s'=>SP X pins D .next s') acc C) sc hn hc hi hg ht he I S.st w' zY GR fun s1 C D' H' I1 q b=>?_)) (fun _ s' hq=>wpAny_pure (wpAny_pure hq)) fun _ _ e=>e)
 show wpAny _ X.A (assign (.Name x pos') X.env (.ref D')) _ _ _
 refine wpAny_assign_Name (qN I1 hN sW hx (v:= .ref D') rfl (fun s2 I2 ⟨a,sb,ha⟩=>?_) hf)
 have MK:C≠a:=by
  rcases ha with z | z
  ·rw[z];exact b.nl
  ·exact Ne.symm (b.nc x a z)
 obtain⟨m,hm⟩:=b.ns
 have Fe:s2.heap.Ns C m:=hm.sameBut sb MK
 refine⟨m,Fe,fun h' Cf=>⟨_,H',Inv.block I2 ⟨⟨m,Fe⟩,b.free,b.nl,b.nw,b.nc,b.np⟩ Cf,q⟩⟩
theorem bI{c:Expr}{a b:List Stmt}{tc:DT}(hc:mm X Xw c tc)(ha:PSDs X Xw a τ)(hb:PSDs X Xw b τ'):jR X Xw (.If c a b pos) (fN tc τ τ'):=fun F₀ H₀=>PS.weak (ID hc (ha F₀ H₀) (hb F₀ H₀)) fun D σ H ⟨F,ρ,s,w⟩=>by
 refine⟨F,ρ,s.st,?_⟩
 unfold fN at w
 match tc ρ,w with
 |none,w=>exact w
 |some (.ok true),w=>exact fun H' F' e'=>⟨F',ρ,s.ext' e',w⟩
 |some (.ok false),w=>exact fun H' F' e'=>⟨F',ρ,s.ext' e',w⟩
 |some (.ex n),w=>exact fun F' H' e'=>w F' H' (s.ext.trans e')
theorem fC{i:Nat}{x:Str}{pos' pJ:Pos}(hN:X.N.Nodup)(hi:X.N[i]? =some x)(hx:Loc X.env.scope x)(hf:X.fn x=true∨X.env.scope.names.lookup x=some .local:=by first | exact .inl rfl | exact .inr rfl):
 jR X Xw (.Assign [.Name x pos'] (.List [] pJ) pos) (oT i):=fun F₀ H₀=>PS.weak (sf (Bo r0) (bE hN hi hx hf) rfl) fun D σ H ⟨F,ρ,s,w⟩=>by
 refine⟨Nat.zero_le _,fun p hp=>?_⟩
 exact w _ F _ (s.setNew (c₀:= .lst []) hp ⟨[],rfl,rfl,Nat.zero_le _⟩)
def D9(K:W.Frag)(g:TG)(put:D→aY→Option aY):Prop:=∀(F₀ H₀ F H:Hp) (σ:St) (ρ ρ':aY) (d:D) (v:V) (Q:St→Hp→Prop),StOk K F₀ H₀ F H σ ρ→Den K F d v→put d ρ=some ρ'→
 (∀σ',StOk K F₀ H₀ F H σ' ρ'→Q σ' H)→g v σ H Q
theorem bJ{K:W.Frag}{i:Nat}:D9 K (Ej i) (putN i):=fun F₀ H₀ F H σ ρ ρ' d v Q s q e k=>by
 cases e
 exact k _ (s.set q)
def Od(K:W.Frag)(Xw:Nat→Hp→Prop)(τ:DS):TS:=fun D σ H=>∃F₀ H₀,tS K Xw F₀ H₀ τ D σ H
theorem PSDs.ex{body:List Stmt}(h:PSDs X Xw body τ):PSs X body (Od X.K Xw τ):=fun pins s σ H D I ⟨F₀,H₀,w⟩=>h F₀ H₀ pins s σ H D I w
theorem cx{tg iter:Expr}{body:List Stmt}{δi:DA}{g:TG}{put:D→aY→Option aY}(hp:PassesOwn (model X.prog X.w) X.A X.env X.xe)(hc:X.calm=true)(hi:yi X Xw tg iter δi)(hg:PG X tg g)(Fl:D9 X.K g put)(hb:PSDs X Xw body τ)
 (hs:∀x,foldedSetIterable iter X.env x=pure x:=by intro _;rfl):jR X Xw (.For tg iter body [] pos) (er put δi τ):=fun F₀ H₀=>PS.weak (Gn hp hc hi hg hb.ex hs) fun D σ H ⟨F,ρ,s,w⟩=>by
 refine⟨F,ρ,s.st,?_⟩
 unfold er at w
 match δi ρ,w with
 |none,w=>exact w
 |some (.ex n),w=>exact fun F' H' e'=>w F' H' (s.ext.trans e')
 |some (.ok ds),w=>
  have w:WPS X.K Xw F₀ H₀ (forL put τ ds ρ) D:=w
  intro J H1 F1 e1 Ma
  obtain⟨s1,back⟩:=(s.ext' e1).rebase
  have hU:=yP (s.ext' e1)
  generalize join F1 H₀=U at s1 back hU
  refine⟨fun i m σ H=>m=ds.length - i∧i≤ds.length∧∃F ρ,StOk X.K F1 U F H σ ρ∧WPS X.K Xw F₀ H₀ (forL put τ (ds.drop i) ρ) D,⟨ds.length,by simp,Nat.zero_le _,F1,ρ,s1,by simpa using w⟩,?_⟩
  rintro i m σ2 H2 ⟨rfl,J9,F2,ρ2,s2,w2⟩
  by_cases dO:i<ds.length
  ·obtain⟨d,hd⟩:∃d,ds[i]? =some d:=⟨_,List.getElem?_eq_getElem dO⟩
   obtain⟨J6,Fm⟩:=(Ma F2 H2 i s2.ext.ff s2.st.fh).1 d hd
   have ed:ds.drop i=d::ds.drop (i+1):=by
    obtain⟨hi,e⟩:=List.getElem?_eq_some_iff.mp hd
    rw[List.drop_eq_getElem_cons hi,e]
   rw[ed] at w2
   unfold forL at w2
   refine .inr ⟨J6,fun σ' H'=>∃F' ρ',StOk X.K F1 U F' H' σ' ρ'∧WPS X.K Xw F₀ H₀ (forL put τ (ds.drop (i+1)) ρ') D,fun σ' H' ⟨F',ρ',h2,h3⟩=>⟨ds.length - (i+1),by omega,rfl,dO,F',ρ',h2,h3⟩,fun x H3 y3=>?_⟩
   obtain⟨F3,B_,q3⟩:=Fm x H3 y3
   match Ny:put d ρ2,w2 with
   |none,w2=>exact w2.elim
   |some ρ3,w2=>
    refine Fl F1 U F3 H3 σ2 ρ2 ρ3 d x _ (s2.ext' B_) q3 Ny fun σ3 s3=>⟨F1,U,F3,ρ3,s3,?_⟩
    have w2:WPS X.K Xw F₀ H₀ (τ ρ3>>=fun o=>match o with | .nx ρ2=>forL put τ (ds.drop (i+1)) ρ2 | .rt v=>M.ret (.rt v)) D:=w2
    match τ ρ3,w2 with
    |none,w2=>exact w2
    |some (.ok (.nx ρ')),w2=>exact fun σ' F' H' s'=>⟨F',ρ',s',w2⟩
    |some (.ok (.rt d)),w2=>exact fun v F' H' e q=>w2 v F' H' (back _ _ e) q
    |some (.ex n),w2=>exact fun F' H' e=>w2 F' H' (back _ _ e)
  ·have hi:i=ds.length:=by omega
   subst hi
   rw[List.drop_length] at w2
   exact .inl ⟨(Ma F2 H2 ds.length s2.ext.ff s2.st.fh).2 (Nat.le_refl _),w2 σ2 F2 H2 (s2.unbase back hU)⟩
end
def gI(f:Int→Int→D):D→D→M D
 | .int i, .int j=>M.ret (f i j)
 |_,_=>M.stuck
def Hr(c:Int→Int→Bool)(f:Int→Int→D):D→D→M D
 | .int i, .int j=>if c i j then M.ret (f i j) else M.stuck
 |_,_=>M.stuck
theorem oB{K:W.Frag}{gv:Int→Int→V}{gd:Int→Int→D}(h:∀F i j,Den K F (gd i j) (gv i j)):vo K (x_ gv) (gI gd):=fun Xw F H x y dx dy Q s hx hy w=>by
 unfold gI at w
 split at w
 ·rename_i i j
  exact⟨i,j,hx,hy,WP.now w s (h F i j)⟩
 ·exact w.elim
theorem wj{K:W.Frag}{gv:Int→Int→V}{gd:Int→Int→D}{c:Int→Int→Bool}{C:Int→Int→Prop}(h:∀F i j,Den K F (gd i j) (gv i j))(hc:∀i j,c i j=true→C i j):vo K (rI C gv) (Hr c gd):=fun Xw F H x y dx dy Q s hx hy w=>by
 unfold Hr at w
 split at w
 ·rename_i i j
  split at w
  ·rename_i Jk
   exact⟨i,j,hx,hy,hc i j Jk,WP.now w s (h F i j)⟩
  ·exact w.elim
 ·exact w.elim
def c0:=gI fun i j=> .int (i+j)
def mq:=gI fun i j=> .int (i - j)
def f6:=Hr (fun i j=>decide ((-(2 ^ 64)<i∧i<2 ^ 64)∨(-(2 ^ 64)<j∧j<2 ^ 64))) fun i j=> .int (i*j)
def pA:=Hr (fun _ j=>decide (0<j∧j<1073741824)) fun i j=> .int (i / j)
def jY:=Hr (fun _ j=>decide (0<j)) fun i j=> .int (i % j)
def GV:=gI fun i j=> .bl (decide (i<j))
def Ei:=gI fun i j=> .bl (decide (j<i))
section
variable{X:Cx}{Xw:Nat→Hp→Prop}{a b:Expr}{δa δb:DE}{pos:Pos}
theorem cJ(ha:PD X Xw a δa)(hb:PD X Xw b δb):PD X Xw (.BinOp a .Add b pos) (d2 c0 δa δb):=qA FN (oB fun _ _ _=>rfl) ha hb
theorem jJ(ha:PD X Xw a δa)(hb:PD X Xw b δb):PD X Xw (.BinOp a .Sub b pos) (d2 mq δa δb):=qA FT (oB fun _ _ _=>rfl) ha hb
theorem iq(ha:PD X Xw a δa)(hb:PD X Xw b δb):PD X Xw (.BinOp a .Mult b pos) (d2 f6 δa δb):=qA FQ (wj (fun _ _ _=>rfl) fun i j h=>by unfold CMul;exact of_decide_eq_true h) ha hb
theorem r_(ha:PD X Xw a δa)(hb:PD X Xw b δb):PD X Xw (.BinOp a .FloorDiv b pos) (d2 pA δa δb):=qA Df (wj (fun _ _ _=>rfl) fun i j h=>by unfold G2;exact of_decide_eq_true h) ha hb
theorem la(ha:PD X Xw a δa)(hb:PD X Xw b δb):PD X Xw (.BinOp a .Mod b pos) (d2 jY δa δb):=qA FP (wj (fun _ _ _=>rfl) fun i j h=>of_decide_eq_true h) ha hb
theorem IF(ha:PD X Xw a δa)(hb:PD X Xw b δb):mm X Xw (.Compare a [.Lt] [b] pos) (cf (d2 GV δa δb)):=eI xH (oB fun _ _ _=>rfl) ha hb
theorem IE(ha:PD X Xw a δa)(hb:PD X Xw b δb):mm X Xw (.Compare a [.Gt] [b] pos) (cf (d2 Ei δa δb)):=eI Ey (oB fun _ _ _=>rfl) ha hb
theorem Iv(ha:PD X Xw a δa)(hb:PD X Xw b δb):PD X Xw (.Compare a [.Lt] [b] pos) (d2 GV δa δb):=oK xH (oB fun _ _ _=>rfl) ha hb
def vP:D→D→M D
 | .lst ds, .int i=>match atI ds i with | some d=>M.ret d | none=>M.stuck
 |_,_=>M.stuck
def bw:D→D→M D
 | .tup ds, .int i=>match atI ds i with | some d=>M.ret d | none=>M.stuck
 |_,_=>M.stuck
def Ai:D→D→M D
 | .scr ns, .int i=>match atI ns i with | some n=>M.ret (.int n) | none=>M.stuck
 |_,_=>M.stuck
def nI:D→D→M D
 | .str x, .int i=>match atI x.cps.toList i with | some c=>M.ret (.str ⟨#[c]⟩) | none=>M.stuck
 |_,_=>M.stuck
theorem DenL.atI{K:W.Frag}{F:Hp}{ds:List D}{vs:List V}(h:DenL K F ds vs){i:Int}{d:D}(e:L2.atI ds i=some d):∃v,L2.atI vs i=some v∧Den K F d v:=by
 unfold L2.atI at e⊢
 rw[←h.len]
 cases q:Fv ds.length i with
 |none=>rw[q] at e;cases e
 |some j=>
  rw[q] at e
  exact h.get e
theorem Dg{K:W.Frag}:vo K (Gx K) vP:=fun Xw F H x y dx dy Q s hx hy w=>by
 unfold vP at w
 split at w
 ·rename_i ds i
  obtain⟨a,vs,h1,h2,h3,h4⟩:=hx
  split at w
  ·rename_i d e
   obtain⟨v,e1,q⟩:=h3.atI e
   exact⟨a,vs,i,v,h1,hy,SqL.of (s _ _ h2),e1,WP.now w s q⟩
  ·exact w.elim
 ·exact w.elim
theorem Dj{K:W.Frag}:vo K (IM K) bw:=fun Xw F H x y dx dy Q s hx hy w=>by
 unfold bw at w
 split at w
 ·rename_i ds i
  obtain⟨a,vs,h1,h2,h3,h4⟩:=hx
  split at w
  ·rename_i d e
   obtain⟨v,e1,q⟩:=h3.atI e
   exact⟨a,vs,i,v,h1,hy,SqT.of (s _ _ h2),e1,WP.now w s q⟩
  ·exact w.elim
 ·exact w.elim
theorem Dh{K:W.Frag}:vo K (Gx K) Ai:=fun Xw F H x y dx dy Q s hx hy w=>by
 unfold Ai at w
 split at w
 ·rename_i ns i
  obtain⟨a,h1,h2,h3⟩:=hx
  split at w
  ·rename_i n e
   refine⟨a,_,i, .int n,h1,hy,Same.seq s h2,?_,WP.now w s rfl⟩
   unfold L2.atI at e⊢
   rw[List.length_map]
   cases q:Fv ns.length i with
   |none=>rw[q] at e;cases e
   |some j=>
    rw[q] at e
    have e:ns[j]? =some n:=e
    show (ns.map V.int)[j]? =some (.int n)
    rw[List.getElem?_map,e];rfl
  ·exact w.elim
 ·exact w.elim
theorem Di{K:W.Frag}:vo K IL nI:=fun Xw F H x y dx dy Q s hx hy w=>by
 unfold nI at w
 split at w
 ·rename_i z i
  obtain⟨h1,h2⟩:=hx
  split at w
  ·rename_i c e
   exact⟨z,i,c,h1,hy,by have:=e9;omega,e,WP.now w s ⟨rfl,by show 1≤lim;decide⟩⟩
  ·exact w.elim
 ·exact w.elim
theorem Bd(ha:PD X Xw a δa)(hb:PD X Xw b δb)(hs:iQ b:=by intro _ _;rfl):PD X Xw (.Subscript a b pos) (d2 vP δa δb):=xP xq Dg ha hb hs
theorem F4(ha:PD X Xw a δa)(hb:PD X Xw b δb)(hs:iQ b:=by intro _ _;rfl):PD X Xw (.Subscript a b pos) (d2 Ai δa δb):=xP xq Dh ha hb hs
theorem b0(ha:PD X Xw a δa)(hb:PD X Xw b δb)(hs:iQ b:=by intro _ _;rfl):PD X Xw (.Subscript a b pos) (d2 bw δa δb):=xP Fy Dj ha hb hs
theorem wq(ha:PD X Xw a δa)(hb:PD X Xw b δb)(hs:iQ b:=by intro _ _;rfl):PD X Xw (.Subscript a b pos) (d2 nI δa δb):=xP Fx Di ha hb hs
theorem iM(x y:Str):(x++y).length=x.length+y.length:=by
 show (x.cps++y.cps).size=_
 simp[Str.length]
end
end L3
namespace L3
open PySem PySem.Spec L2 SeqAt
open PyProof.Rows hiding St
def nz(f:D→D→Option Bool):List D→List D→Option Bool
 |[],[]=>some true
 |x::xs,y::ys=>match f x y,nz f xs ys with
  |some b,some r=>some (b&&r)
  |_,_=>none
 |[],_::_=>some false
 |_::_,[]=>some false
def vL:D→D→Option Bool
 | .non, .non=>some true
 | .bl a, .bl b=>some (a==b)
 | .bl a, .int j=>some ((if a then 1 else 0)==j)
 | .int i, .bl b=>some (i==(if b then 1 else 0))
 | .int i, .int j=>some (i==j)
 | .str x, .str y=>some (x==y)
 | .non, .bl _=>some false
 | .non, .int _=>some false
 | .non, .str _=>some false
 | .non, .lst _=>some false
 | .non, .tup _=>some false
 | .bl _, .non=>some false
 | .bl _, .str _=>some false
 | .bl _, .lst _=>some false
 | .bl _, .tup _=>some false
 | .int _, .non=>some false
 | .int _, .str _=>some false
 | .int _, .lst _=>some false
 | .int _, .tup _=>some false
 | .str _, .non=>some false
 | .str _, .bl _=>some false
 | .str _, .int _=>some false
 | .str _, .lst _=>some false
 | .str _, .tup _=>some false
 | .lst _, .non=>some false
 | .lst _, .bl _=>some false
 | .lst _, .int _=>some false
 | .lst _, .str _=>some false
 | .lst _, .tup _=>some false
 | .tup _, .non=>some false
 | .tup _, .bl _=>some false
 | .tup _, .int _=>some false
 | .tup _, .str _=>some false
 | .tup _, .lst _=>some false
 |_,_=>none
def kM:Nat→D→D→Option Bool
 |n+1, .tup xs, .tup ys=>nz (kM n) xs ys
 |n+1, .lst xs, .lst ys=>nz (kM n) xs ys
 |n+1, .scr xs, .lst ys=>nz (kM n) (xs.map D.int) ys
 |_,x,y=>vL x y
structure EqAll (A:Around) (s:Shared) (u v:Value) (b:Bool):Prop where
 rc:RcAt A s u v b
 ne:RcNeAt A s u v (!b)
 eq:EqAt A s u v b
section
variable{X:Cx}{pins:List (Addr×Obj)}{σ:St}{F H:Hp}{s:Shared}{A:Around}
theorem eA(I:Inv X pins σ H s)(hs:Same F H){ds:List D}{v:V}{u:Value}(h:Den X.K F (.tup ds) v)(r:RelV v u):∃a vs aF,u= .ref a∧v= .ref a∧F a=some (.tup vs)∧DenL X.K F ds vs∧Vals vs aF∧s.heap.IsTuple a aF.toArray:=by
 obtain⟨a,vs,rfl,h2,h3,h4⟩:=h
 obtain⟨aF,r1,p1,_⟩:=I.tuple (SqT.of (hs _ _ h2))
 exact⟨a,vs,aF,r,rfl,h2,h3,r1,p1⟩
theorem dU(I:Inv X pins σ H s)(hs:Same F H){ds:List D}{v:V}{u:Value}(h:Den X.K F (.lst ds) v)(r:RelV v u):∃a vs aF,u= .ref a∧v= .ref a∧F a=some (.lst vs)∧DenL X.K F ds vs∧Vals vs aF∧s.heap.IsList a aF.toArray:=by
 obtain⟨a,vs,rfl,h2,h3,h4⟩:=h
 obtain⟨aF,r1,p1,_⟩:=I.list (SqL.of (hs _ _ h2))
 exact⟨a,vs,aF,r,rfl,h2,h3,r1,p1.isList⟩
theorem GF(I:Inv X pins σ H s)(hs:Same F H){ns:List Int}{v:V}{u:Value}(h:Den X.K F (.scr ns) v)(r:RelV v u):∃a aF,u= .ref a∧v= .ref a∧SqL X.K F a (ns.map V.int)∧Vals (ns.map V.int) aF∧s.heap.IsList a aF.toArray:=by
 obtain⟨a,rfl,h2,h3⟩:=h
 obtain⟨aF,r1,p1,_⟩:=I.list (Same.seq hs h2)
 exact⟨a,aF,r,rfl,h2,r1,p1.isList⟩
theorem tJ(I:Inv X pins σ H s)(hs:Same F H)(hu:A.units<cLine){x y:D}{v w:V}{u t:Value}{b:Bool}(hx:Den X.K F x v)(hy:Den X.K F y w)(rx:RelV v u)(ry:RelV w t)(e:vL x y=some b):EqAll A s u t b:=by
 cases x with
 |non=>
  cases y with
  |non=>
   cases e
   cases (show _=_ from hx)
   cases rx
   cases (show _=_ from hy)
   cases ry
   exact⟨RcAt.none_none,RcNeAt.none_none,EqAt.same _⟩
  |bl d=>
   cases e
   cases (show _=_ from hx)
   cases rx
   cases (show _=_ from hy)
   cases ry
   exact⟨RcAt.none_bool _,RcNeAt.none_bool _,EqAt.none_bool _⟩
  |int d=>
   cases e
   cases (show _=_ from hx)
   cases rx
   cases (show _=_ from hy)
   obtain⟨t2,rfl⟩:=ry
   exact⟨RcAt.none_int _ _,RcNeAt.none_int _ _,EqAt.none_int _ _⟩
  |str d=>
   cases e
   cases (show _=_ from hx)
   cases rx
   cases (show _=_ from hy.1)
   obtain⟨t2,rfl⟩:=ry
   exact⟨RcAt.none_str _ _,RcNeAt.none_str _ _,EqAt.none_str _ _⟩
  |raw d=>cases e
  |dct _ _=>cases e
  |dci _ _=>cases e
  |exc d=>cases e
  |scr d=>cases e
  |tup d=>
   cases e
   cases (show _=_ from hx)
   cases rx
   obtain⟨a2,_,_,rfl,_,_,_,_,p2⟩:=eA I hs hy ry
   exact⟨RcAt.none_tuple p2 hu,RcNeAt.none_tuple p2 hu,EqAt.none_tuple p2 hu⟩
  |lst d=>
   cases e
   cases (show _=_ from hx)
   cases rx
   obtain⟨a2,_,_,rfl,_,_,_,_,p2⟩:=dU I hs hy ry
   exact⟨RcAt.none_list p2 hu,RcNeAt.none_list p2 hu,EqAt.none_list p2 hu⟩
 |bl c=>
  cases y with
  |non=>
   cases e
   cases (show _=_ from hx)
   cases rx
   cases (show _=_ from hy)
   cases ry
   exact⟨RcAt.bool_none _,RcNeAt.bool_none _,EqAt.bool_none _⟩
  |bl d=>
   cases e
   cases (show _=_ from hx)
   cases rx
   cases (show _=_ from hy)
   cases ry
   exact⟨RcAt.bool_bool _ _,RcNeAt.bool_bool _ _,EqAt.bool_bool _ _⟩
  |int d=>
   cases e
   cases (show _=_ from hx)
   cases rx
   cases (show _=_ from hy)
   obtain⟨t2,rfl⟩:=ry
   exact⟨RcAt.bool_int _ _ _,RcNeAt.bool_int _ _ _,EqAt.bool_int _ _ _⟩
  |str d=>
   cases e
   cases (show _=_ from hx)
   cases rx
   cases (show _=_ from hy.1)
   obtain⟨t2,rfl⟩:=ry
   exact⟨RcAt.bool_str _ _ _,RcNeAt.bool_str _ _ _,EqAt.bool_str _ _ _⟩
  |raw d=>cases e
  |dct _ _=>cases e
  |dci _ _=>cases e
  |exc d=>cases e
  |scr d=>cases e
  |tup d=>
   cases e
   cases (show _=_ from hx)
   cases rx
   obtain⟨a2,_,_,rfl,_,_,_,_,p2⟩:=eA I hs hy ry
   exact⟨RcAt.bool_tuple _ p2 hu,RcNeAt.bool_tuple _ p2 hu,EqAt.bool_tuple _ p2 hu⟩
  |lst d=>
   cases e
   cases (show _=_ from hx)
   cases rx
   obtain⟨a2,_,_,rfl,_,_,_,_,p2⟩:=dU I hs hy ry
   exact⟨RcAt.bool_list _ p2 hu,RcNeAt.bool_list _ p2 hu,EqAt.bool_list _ p2 hu⟩
 |int c=>
  cases y with
  |non=>
   cases e
   cases (show _=_ from hx)
   obtain⟨t1,rfl⟩:=rx
   cases (show _=_ from hy)
   cases ry
   exact⟨RcAt.int_none _ _,RcNeAt.int_none _ _,EqAt.int_none _ _⟩
  |bl d=>
   cases e
   cases (show _=_ from hx)
   obtain⟨t1,rfl⟩:=rx
   cases (show _=_ from hy)
   cases ry
   exact⟨RcAt.int_bool _ _ _,RcNeAt.int_bool _ _ _,EqAt.int_bool _ _ _⟩
  |int d=>
   cases e
   cases (show _=_ from hx)
   obtain⟨t1,rfl⟩:=rx
   cases (show _=_ from hy)
   obtain⟨t2,rfl⟩:=ry
   exact⟨RcAt.int_int _ _ _ _,RcNeAt.int_int _ _ _ _,EqAt.int_int _ _ _ _⟩
  |str d=>
   cases e
   cases (show _=_ from hx)
   obtain⟨t1,rfl⟩:=rx
   cases (show _=_ from hy.1)
   obtain⟨t2,rfl⟩:=ry
   exact⟨RcAt.int_str _ _ _ _,RcNeAt.int_str _ _ _ _,EqAt.int_str _ _ _ _⟩
  |raw d=>cases e
  |dct _ _=>cases e
  |dci _ _=>cases e
  |exc d=>cases e
  |scr d=>cases e
  |tup d=>
   cases e
   cases (show _=_ from hx)
   obtain⟨t1,rfl⟩:=rx
   obtain⟨a2,_,_,rfl,_,_,_,_,p2⟩:=eA I hs hy ry
   exact⟨RcAt.int_tuple _ _ p2 hu,RcNeAt.int_tuple _ _ p2 hu,EqAt.int_tuple _ _ p2 hu⟩
  |lst d=>
   cases e
   cases (show _=_ from hx)
   obtain⟨t1,rfl⟩:=rx
   obtain⟨a2,_,_,rfl,_,_,_,_,p2⟩:=dU I hs hy ry
   exact⟨RcAt.int_list _ _ p2 hu,RcNeAt.int_list _ _ p2 hu,EqAt.int_list _ _ p2 hu⟩
 |str c=>
  cases y with
  |non=>
   cases e
   cases (show _=_ from hx.1)
   obtain⟨t1,rfl⟩:=rx
   cases (show _=_ from hy)
   cases ry
   exact⟨RcAt.str_none _ _,RcNeAt.str_none _ _,EqAt.str_none _ _⟩
  |bl d=>
   cases e
   cases (show _=_ from hx.1)
   obtain⟨t1,rfl⟩:=rx
   cases (show _=_ from hy)
   cases ry
   exact⟨RcAt.str_bool _ _ _,RcNeAt.str_bool _ _ _,EqAt.str_bool _ _ _⟩
  |int d=>
   cases e
   cases (show _=_ from hx.1)
   obtain⟨t1,rfl⟩:=rx
   cases (show _=_ from hy)
   obtain⟨t2,rfl⟩:=ry
   exact⟨RcAt.str_int _ _ _ _,RcNeAt.str_int _ _ _ _,EqAt.str_int _ _ _ _⟩
  |str d=>
   cases e
   cases (show _=_ from hx.1)
   obtain⟨t1,rfl⟩:=rx
   cases (show _=_ from hy.1)
   obtain⟨t2,rfl⟩:=ry
   exact⟨RcAt.str_str _ _ _ _,RcNeAt.str_str _ _ _ _,EqAt.str_str _ _ _ _⟩
  |raw d=>cases e
  |dct _ _=>cases e
  |dci _ _=>cases e
  |exc d=>cases e
  |scr d=>cases e
  |tup d=>
   cases e
   cases (show _=_ from hx.1)
   obtain⟨t1,rfl⟩:=rx
   obtain⟨a2,_,_,rfl,_,_,_,_,p2⟩:=eA I hs hy ry
   exact⟨RcAt.str_tuple _ _ p2 hu,RcNeAt.str_tuple _ _ p2 hu,EqAt.str_tuple _ _ p2 hu⟩
  |lst d=>
   cases e
   cases (show _=_ from hx.1)
   obtain⟨t1,rfl⟩:=rx
   obtain⟨a2,_,_,rfl,_,_,_,_,p2⟩:=dU I hs hy ry
   exact⟨RcAt.str_list _ _ p2 hu,RcNeAt.str_list _ _ p2 hu,EqAt.str_list _ _ p2 hu⟩
 |raw _=>cases y<;>cases e
 |dct _ _=>cases y<;>cases e
 |dci _ _=>cases y<;>cases e
 |exc _=>cases y<;>cases e
 |scr c=>cases y<;>cases e
 |tup c=>
  cases y with
  |non=>
   cases e
   obtain⟨a1,_,_,rfl,_,_,_,_,p1⟩:=eA I hs hx rx
   cases (show _=_ from hy)
   cases ry
   exact⟨RcAt.tuple_none p1 hu,RcNeAt.tuple_none p1 hu,EqAt.tuple_none p1 hu⟩
  |bl d=>
   cases e
   obtain⟨a1,_,_,rfl,_,_,_,_,p1⟩:=eA I hs hx rx
   cases (show _=_ from hy)
   cases ry
   exact⟨RcAt.tuple_bool _ p1 hu,RcNeAt.tuple_bool _ p1 hu,EqAt.tuple_bool _ p1 hu⟩
  |int d=>
   cases e
   obtain⟨a1,_,_,rfl,_,_,_,_,p1⟩:=eA I hs hx rx
   cases (show _=_ from hy)
   obtain⟨t2,rfl⟩:=ry
   exact⟨RcAt.tuple_int _ _ p1 hu,RcNeAt.tuple_int _ _ p1 hu,EqAt.tuple_int _ _ p1 hu⟩
  |str d=>
   cases e
   obtain⟨a1,_,_,rfl,_,_,_,_,p1⟩:=eA I hs hx rx
   cases (show _=_ from hy.1)
   obtain⟨t2,rfl⟩:=ry
   exact⟨RcAt.tuple_str _ _ p1 hu,RcNeAt.tuple_str _ _ p1 hu,EqAt.tuple_str _ _ p1 hu⟩
  |raw d=>cases e
  |dct _ _=>cases e
  |dci _ _=>cases e
  |exc d=>cases e
  |scr d=>cases e
  |tup d=>cases e
  |lst d=>
   cases e
   obtain⟨a1,_,_,rfl,_,_,_,_,p1⟩:=eA I hs hx rx
   obtain⟨a2,_,_,rfl,_,_,_,_,p2⟩:=dU I hs hy ry
   exact⟨RcAt.tuple_list p1 p2 hu,RcNeAt.tuple_list p1 p2 hu,EqAt.tuple_list p1 p2 hu⟩
 |lst c=>
  cases y with
  |non=>
   cases e
   obtain⟨a1,_,_,rfl,_,_,_,_,p1⟩:=dU I hs hx rx
   cases (show _=_ from hy)
   cases ry
   exact⟨RcAt.list_none p1 hu,RcNeAt.list_none p1 hu,EqAt.list_none p1 hu⟩
  |bl d=>
   cases e
   obtain⟨a1,_,_,rfl,_,_,_,_,p1⟩:=dU I hs hx rx
   cases (show _=_ from hy)
   cases ry
   exact⟨RcAt.list_bool _ p1 hu,RcNeAt.list_bool _ p1 hu,EqAt.list_bool _ p1 hu⟩
  |int d=>
   cases e
   obtain⟨a1,_,_,rfl,_,_,_,_,p1⟩:=dU I hs hx rx
   cases (show _=_ from hy)
   obtain⟨t2,rfl⟩:=ry
   exact⟨RcAt.list_int _ _ p1 hu,RcNeAt.list_int _ _ p1 hu,EqAt.list_int _ _ p1 hu⟩
  |str d=>
   cases e
   obtain⟨a1,_,_,rfl,_,_,_,_,p1⟩:=dU I hs hx rx
   cases (show _=_ from hy.1)
   obtain⟨t2,rfl⟩:=ry
   exact⟨RcAt.list_str _ _ p1 hu,RcNeAt.list_str _ _ p1 hu,EqAt.list_str _ _ p1 hu⟩
  |raw d=>cases e
  |dct _ _=>cases e
  |dci _ _=>cases e
  |exc d=>cases e
  |scr d=>cases e
  |tup d=>
   cases e
   obtain⟨a1,_,_,rfl,_,_,_,_,p1⟩:=dU I hs hx rx
   obtain⟨a2,_,_,rfl,_,_,_,_,p2⟩:=eA I hs hy ry
   exact⟨RcAt.list_tuple p1 p2 hu,RcNeAt.list_tuple p1 p2 hu,EqAt.list_tuple p1 p2 hu⟩
  |lst d=>cases e
end
def ev(f:D→D→Option Bool)(xs ys:List D)(j:Nat):Bool:=match xs[j]?,ys[j]? with
 |some x,some y=>(f x y).getD false
 |_,_=>false
theorem tI{f:D→D→Option Bool}:∀{xs ys:List D}{b:Bool},nz f xs ys=some b→∀(j:Nat) (x y:D),xs[j]? =some x→ys[j]? =some y→∃c,f x y=some c
 |[],_,_,_,_,_,_,h,_=>by simp at h
 |_::_,[],_,_,_,_,_,_,h=>by simp at h
 |x::xs,y::ys,b,e,j,x',y',hx,hy=>by
  unfold nz at e
  split at e
  ·rename_i b1 r1 e1 e2
   cases j with
   |zero=>simp at hx hy;subst hx hy;exact⟨_,e1⟩
   |succ j=>exact tI e2 j x' y' (by simpa using hx) (by simpa using hy)
  ·cases e
theorem ri{f:D→D→Option Bool}:∀{xs ys:List D}{b:Bool},nz f xs ys=some b→b=((List.range (min xs.length ys.length)).all (ev f xs ys)&&xs.length==ys.length)
 |[],[],_,e=>by cases e;rfl
 |[],_::_,_,e=>by cases e;simp
 |_::_,[],_,e=>by cases e;simp
 |x::xs,y::ys,b,e=>by
  unfold nz at e
  split at e
  ·rename_i b1 r1 e1 e2
   cases e
   have h:=ri e2
   rw[List.length_cons,List.length_cons,Nat.succ_min_succ,List.range_succ_eq_map,List.all_cons,List.all_map]
   have e0:ev f (x::xs) (y::ys) 0=b1:=by unfold ev;simp[e1]
   have e3:(ev f (x::xs) (y::ys)∘Nat.succ)=ev f xs ys:=by funext j;simp[ev,Function.comp]
   have e4:(xs.length+1==ys.length+1)=(xs.length==ys.length):=by simp
   rw[e0,e3,e4,h,Bool.and_assoc]
  ·cases e
section
variable{X:Cx}{pins:List (Addr×Obj)}{σ:St}{F H:Hp}{s:Shared}
theorem jV{f:D→D→Option Bool}(h:∀x y v b,Den X.K F x v→Den X.K F y v→f x y=some b→b=true):∀{xs ys:List D}{vs:List V}{b:Bool},DenL X.K F xs vs→DenL X.K F ys vs→nz f xs ys=some b→b=true
 |[],[],_,_,_,_,e=>by cases e;rfl
 |[],_::_,_,_,h1,h2,_=>by
  cases (show _=_ from h1)
  obtain⟨v,r,z,_⟩:=h2
  cases z
 |_::_,[],_,_,h1,h2,_=>by
  cases (show _=_ from h2)
  obtain⟨v,r,z,_⟩:=h1
  cases z
 |x::xs,y::ys,_,b,⟨v,r,e1,q1,q2⟩,⟨v',r',e2,q3,q4⟩,e=>by
  subst e1
  cases e2
  unfold nz at e
  split at e
  ·rename_i b1 r1 f1 f2
   cases e
   rw[h x y v b1 q1 q3 f1,jV h q2 q4 f2]
   rfl
  ·cases e
theorem p7{x y:D}{v:V}{b:Bool}(hx:Den X.K F x v)(hy:Den X.K F y v)(e:vL x y=some b):b=true:=by
 cases x<;>cases y<;>first
  |(cases e;done)
  |(cases e;cases (show _=_ from hx);cases (show _=_ from hy);first | rfl | simp)
  |(cases e;cases (show _=_ from hx.1);cases (show _=_ from hy.1);simp)
  |(cases e;cases (show _=_ from hx);cases (show _=_ from hy.1))
  |(cases e;cases (show _=_ from hx.1);cases (show _=_ from hy))
  |(cases e;obtain⟨_,_,z,_⟩:=hx;subst z;cases (show _=_ from hy);done)
  |(cases e;obtain⟨_,_,z,_⟩:=hx;subst z;cases (show _=_ from hy.1);done)
  |(cases e;obtain⟨_,z,_⟩:=hx;subst z;cases (show _=_ from hy);done)
  |(cases e;obtain⟨_,z,_⟩:=hx;subst z;cases (show _=_ from hy.1);done)
  |(cases e;obtain⟨_,_,z,_⟩:=hy;subst z;cases (show _=_ from hx);done)
  |(cases e;obtain⟨_,_,z,_⟩:=hy;subst z;cases (show _=_ from hx.1);done)
  |(cases e;obtain⟨_,z,_⟩:=hy;subst z;cases (show _=_ from hx);done)
  |(cases e;obtain⟨_,z,_⟩:=hy;subst z;cases (show _=_ from hx.1);done)
  |(cases e;obtain⟨_,_,z,h2,_⟩:=hx;obtain⟨_,_,z',Lw,_⟩:=hy;subst z;cases z';rw[h2] at Lw;cases Lw;done)
  |(cases e;cases (show _=_ from hx);cases (show _=_ from hy);done)
  |(cases e;cases (show _=_ from hx.1);cases (show _=_ from hy.1);done)
theorem jU(I:Inv X pins σ H s)(hs:Same F H):∀(n:Nat) (x y:D) (v:V) (b:Bool),Den X.K F x v→Den X.K F y v→kM n x y=some b→b=true
 |0,x,y,v,b,hx,hy,e=>p7 hx hy (by unfold kM at e;exact e)
 |n+1,x,y,v,b,hx,hy,e=>by
  unfold kM at e
  split at e
  ·rename_i xs ys _
   obtain⟨a,vs,rfl,h2,h3,_⟩:=hx
   obtain⟨a',vs',z,k2,k3,_⟩:=hy
   cases z
   rw[h2] at k2
   cases k2
   exact jV (jU I hs _) h3 k3 (by simpa using e)
  ·rename_i xs ys _
   obtain⟨a,vs,rfl,h2,h3,_⟩:=hx
   obtain⟨a',vs',z,k2,k3,_⟩:=hy
   cases z
   rw[h2] at k2
   cases k2
   exact jV (jU I hs _) h3 k3 (by simpa using e)
  ·rename_i xs ys _
   obtain⟨a,rfl,h2,_⟩:=hx
   obtain⟨a',vs',z,k2,k3,_⟩:=hy
   cases z
   have hv:=I.list_inj (Same.seq hs h2) (SqL.of (hs _ _ k2))
   rw[←hv] at k3
   exact jV (jU I hs _) (DenL.ints xs) k3 (by simpa using e)
  ·exact p7 hx hy e
theorem Vals.at{vs:List V}{aF:List Value}(r:Vals vs aF){j:Nat}(h:j<aF.toArray.size):∃v,vs[j]? =some v∧RelV v aF.toArray[j]:=by
 have hl:=r.length
 have hj:j<vs.length:=by rw[List.size_toArray] at h;omega
 obtain⟨u,e1,e2⟩:=r.get (List.getElem?_eq_getElem hj)
 refine⟨vs[j],List.getElem?_eq_getElem hj,?_⟩
 have:aF.toArray[j]=u:=by
  have:=(List.getElem?_eq_some_iff.mp e1).2
  simpa using this
 rw[this]
 exact e2
theorem mF{f:D→D→Option Bool}{A:Around}{xs ys:List D}{vs ws:List V}{aF f7:List Value}{b:Bool}(h1:DenL X.K F xs vs)(h2:DenL X.K F ys ws)(r1:Vals vs aF)(r2:Vals ws f7)(e:nz f xs ys=some b)
 (ih:∀x y v w u t c,Den X.K F x v→Den X.K F y w→RelV v u→RelV w t→f x y=some c→EqAt A s u t c):
 ∀j (k1:j<aF.toArray.size) (k2:j<f7.toArray.size),EqAt A s aF.toArray[j] f7.toArray[j] (ev f xs ys j):=fun j k1 k2=>by
 obtain⟨v,e1,q1⟩:=Vals.at r1 k1
 obtain⟨w,e2,q2⟩:=Vals.at r2 k2
 obtain⟨x,e3,q3⟩:=h1.at e1
 obtain⟨y,e4,q4⟩:=h2.at e2
 obtain⟨c,hc⟩:=tI e j x y e3 e4
 have:ev f xs ys j=c:=by unfold ev;rw[e3,e4];simp[hc]
 rw[this]
 exact ih x y v w _ _ c q3 q4 q1 q2 hc
theorem qm{f:D→D→Option Bool}{A:Around}(hu:A.units<cLine){xs ys:List D}{vs ws:List V}{aF f7:List Value}{b:Bool}{a a':Addr}(h1:DenL X.K F xs vs)(h2:DenL X.K F ys ws)(r1:Vals vs aF)(r2:Vals ws f7)
 (p1:s.heap.IsList a aF.toArray)(p2:s.heap.IsList a' f7.toArray)(e:nz f xs ys=some b)(hr:a=a'→b=true)
 (ih:∀x y v w u t c,Den X.K F x v→Den X.K F y w→RelV v u→RelV w t→f x y=some c→EqAt A.in1 s u t c):EqAll A s (.ref a) (.ref a') b:=by
 have l1:=h1.len
 have l2:=h2.len
 have l3:=r1.length
 have l4:=r2.length
 have hv:=ri e
 have core:RcAt A s (.ref a) (.ref a') b∧RcNeAt A s (.ref a) (.ref a') (!b):=by
  by_cases hl:xs.length=ys.length
  ·have hsz:aF.toArray.size=f7.toArray.size:=by rw[List.size_toArray,List.size_toArray];omega
   have hb:b=(List.range aF.toArray.size).all (ev f xs ys):=by
    rw[hv,hl,Nat.min_self,beq_self_eq_true,Bool.and_true]
    congr 2
    rw[List.size_toArray];omega
   rw[hb]
   exact⟨RcAt.lists p1 p2 hsz hu (mF h1 h2 r1 r2 e ih),RcNeAt.lists p1 p2 hsz hu (mF h1 h2 r1 r2 e ih)⟩
  ·have hb:b=false:=by rw[hv,show (xs.length==ys.length)=false from by simpa using hl,Bool.and_false]
   have hsz:(aF.toArray.size !=f7.toArray.size)=true:=by
    rw[List.size_toArray,List.size_toArray]
    simp
    omega
   rw[hb]
   exact⟨RcAt.lists_lengths p1 p2 hsz hu,RcNeAt.lists_lengths p1 p2 hsz hu⟩
 refine⟨core.1,core.2,?_⟩
 by_cases hq:a=a'
 ·rw[hr hq]
  subst hq
  exact EqAt.same _
 ·exact EqAt.of_refs hq core.1
theorem wH{f:D→D→Option Bool}{A:Around}(hu:A.units<cLine){xs ys:List D}{vs ws:List V}{aF f7:List Value}{b:Bool}{a a':Addr}(h1:DenL X.K F xs vs)(h2:DenL X.K F ys ws)(r1:Vals vs aF)(r2:Vals ws f7)
 (p1:s.heap.IsTuple a aF.toArray)(p2:s.heap.IsTuple a' f7.toArray)(e:nz f xs ys=some b)(hr:a=a'→b=true)
 (ih:∀x y v w u t c,Den X.K F x v→Den X.K F y w→RelV v u→RelV w t→f x y=some c→EqAt A.in1 s u t c):EqAll A s (.ref a) (.ref a') b:=by
 have l1:=h1.len
 have l2:=h2.len
 have l3:=r1.length
 have l4:=r2.length
 have hb:b=((List.range (min aF.toArray.size f7.toArray.size)).all (ev f xs ys)&&aF.toArray.size==f7.toArray.size):=by
  rw[ri e,List.size_toArray,List.size_toArray,←l3,←l4,←l1,←l2]
 have core:RcAt A s (.ref a) (.ref a') b∧RcNeAt A s (.ref a) (.ref a') (!b):=by
  rw[hb]
  exact⟨RcAt.tuples p1 p2 hu (mF h1 h2 r1 r2 e ih),RcNeAt.tuples p1 p2 hu (mF h1 h2 r1 r2 e ih)⟩
 refine⟨core.1,core.2,?_⟩
 by_cases hq:a=a'
 ·rw[hr hq]
  subst hq
  exact EqAt.same _
 ·exact EqAt.of_refs hq core.1
theorem rj(I:Inv X pins σ H s)(hs:Same F H):∀(n:Nat) (A:Around) (x y:D) (v w:V) (u t:Value) (b:Bool),A.units+n<cLine→Den X.K F x v→Den X.K F y w→RelV v u→RelV w t→kM n x y=some b→EqAll A s u t b
 |0,A,x,y,v,w,u,t,b,hu,hx,hy,rx,ry,e=>tJ I hs (by omega) hx hy rx ry (by unfold kM at e;exact e)
 |n+1,A,x,y,v,w,u,t,b,hu,hx,hy,rx,ry,e=>by
  have Jq:A.units<cLine:=by omega
  have NL:A.in1.units+n<cLine:=by show A.units+1+n<cLine;omega
  have hrefl:=jU (F:=F) I hs (n+1) x y
  have ih:∀x y v w u t c,Den X.K F x v→Den X.K F y w→RelV v u→RelV w t→kM n x y=some c→EqAt A.in1 s u t c:=fun x y v w u t c q1 q2 q3 q4 q5=>(rj I hs n A.in1 x y v w u t c NL q1 q2 q3 q4 q5).eq
  have e0:=e
  unfold kM at e
  split at e
  ·rename_i xs ys heq
   cases heq
   obtain⟨a,vs,aF,rfl,Hn,h2,h3,r1,p1⟩:=eA I hs hx rx
   obtain⟨a',vs',its',rfl,Ho,k2,k3,IH,Iq⟩:=eA I hs hy ry
   exact wH Jq h3 k3 r1 IH p1 Iq e (fun z=>by subst z;exact hrefl v b hx (by rw[Hn,←Ho];exact hy) e0) ih
  ·rename_i xs ys heq
   cases heq
   obtain⟨a,vs,aF,rfl,Hn,h2,h3,r1,p1⟩:=dU I hs hx rx
   obtain⟨a',vs',its',rfl,Ho,k2,k3,IH,Iq⟩:=dU I hs hy ry
   exact qm Jq h3 k3 r1 IH p1 Iq e (fun z=>by subst z;exact hrefl v b hx (by rw[Hn,←Ho];exact hy) e0) ih
  ·rename_i xs ys heq
   cases heq
   obtain⟨a,aF,rfl,Hn,h2,r1,p1⟩:=GF I hs hx rx
   obtain⟨a',vs',its',rfl,Ho,k2,k3,IH,Iq⟩:=dU I hs hy ry
   exact qm Jq (DenL.ints _) k3 r1 IH p1 Iq e (fun z=>by subst z;exact hrefl v b hx (by rw[Hn,←Ho];exact hy) e0) ih
  ·exact tJ I hs Jq hx hy rx ry e
end
def nH(x y:D):M D:=match kM 6 x y with | some b=>M.ret (.bl b) | none=>M.stuck
def kR(x y:D):M D:=match kM 6 x y with | some b=>M.ret (.bl (!b)) | none=>M.stuck
def IJ(K:W.Frag):R2:=fun x y H Q=>∃F dx dy b,Same F H∧Den K F dx x∧Den K F dy y∧kM 6 dx dy=some b∧Q (.bl b) H
def IQ(K:W.Frag):R2:=fun x y H Q=>∃F dx dy b,Same F H∧Den K F dx x∧Den K F dy y∧kM 6 dx dy=some b∧Q (.bl (!b)) H
section
variable{X:Cx}{Xw:Nat→Hp→Prop}{a b:Expr}{δa δb:DE}{pos:Pos}
theorem A5(hu:X.A.units+64<cLine):OpR X (compareOp .Eq) (IJ X.K):=by
 intro pins s σ H x y v u Q I rx ry h
 obtain⟨F,dx,dy,b,hs,hx,hy,e,q⟩:=h
 exact(rj I hs 6 X.A dx dy x y v u b (by omega) hx hy rx ry e).rc _ _ _ _ ⟨.bl b,H,I,rfl,q⟩
theorem FR(hu:X.A.units+64<cLine):OpR X (compareOp .NotEq) (IQ X.K):=by
 intro pins s σ H x y v u Q I rx ry h
 obtain⟨F,dx,dy,b,hs,hx,hy,e,q⟩:=h
 exact(rj I hs 6 X.A dx dy x y v u b (by omega) hx hy rx ry e).ne _ _ _ _ ⟨.bl (!b),H,I,rfl,q⟩
theorem A7{K:W.Frag}:vo K (IJ K) nH:=fun Xw F H x y dx dy Q s hx hy w=>by
 unfold nH at w
 split at w
 ·rename_i b e
  exact⟨F,dx,dy,b,s,hx,hy,e,WP.now w s rfl⟩
 ·exact w.elim
theorem FU{K:W.Frag}:vo K (IQ K) kR:=fun Xw F H x y dx dy Q s hx hy w=>by
 unfold kR at w
 split at w
 ·rename_i b e
  exact⟨F,dx,dy,b,s,hx,hy,e,WP.now w s rfl⟩
 ·exact w.elim
theorem xW(hu:X.A.units+64<cLine)(ha:PD X Xw a δa)(hb:PD X Xw b δb):mm X Xw (.Compare a [.Eq] [b] pos) (cf (d2 nH δa δb)):=eI (A5 hu) A7 ha hb
theorem kz(hu:X.A.units+64<cLine)(ha:PD X Xw a δa)(hb:PD X Xw b δb):mm X Xw (.Compare a [.NotEq] [b] pos) (cf (d2 kR δa δb)):=eI (FR hu) FU ha hb
theorem uH(hu:X.A.units+64<cLine)(ha:PD X Xw a δa)(hb:PD X Xw b δb):PD X Xw (.Compare a [.Eq] [b] pos) (d2 nH δa δb):=oK (A5 hu) A7 ha hb
end
def PDW(X:Cx)(Xw:Nat→Hp→Prop)(e:Expr)(δ:DT):Prop:=PW X e (K7 X.K Xw δ)
theorem PW.weak{X:Cx}{e:Expr}{t t':TT}(h:PW X e t)(k:∀σ H Q,t' σ H Q→t σ H Q):PW X e t':=fun wh pins s σ H Q I w=>h wh pins s σ H Q I (k σ H Q w)
section
variable{X:Cx}{Xw:Nat→Hp→Prop}{a b c:Expr}{rest:List Expr}{δa δb δc:DE}{τa τb:DT}{pos:Pos}
theorem oN(ha:mm X Xw a τa):PDW X Xw (.BoolOp .And [a] pos) τa:=DL ha
theorem i6(ha:mm X Xw a τa):PDW X Xw (.BoolOp .Or [a] pos) τa:=Gu ha
theorem mM(ha:mm X Xw a τa)(hb:PDW X Xw (.BoolOp .And (b::rest) pos) τb):PDW X Xw (.BoolOp .And (a::b::rest) pos) (nh τa τb):=PW.weak (Gs ha hb) fun σ H Q ⟨F,ρ,s,w⟩=>by
 refine⟨F,ρ,s,WPB.mono (WPB.bindB w) fun v H1 ⟨F1,e1,w1⟩=>?_⟩
 cases v with
 |true=>exact⟨F1,ρ,s.ext e1,w1⟩
 |false=>exact w1 _ _ (Ext.refl e1.fh)
theorem lg(ha:mm X Xw a τa)(hb:PDW X Xw (.BoolOp .Or (b::rest) pos) τb):PDW X Xw (.BoolOp .Or (a::b::rest) pos) (ni τa τb):=PW.weak (IG ha hb) fun σ H Q ⟨F,ρ,s,w⟩=>by
 refine⟨F,ρ,s,WPB.mono (WPB.bindB w) fun v H1 ⟨F1,e1,w1⟩=>?_⟩
 cases v with
 |false=>exact⟨F1,ρ,s.ext e1,w1⟩
 |true=>exact w1 _ _ (Ext.refl e1.fh)
theorem PDW.t(h:PDW X Xw a τa):mm X Xw a τa:=PW.pt h
theorem c9(ha:mm X Xw a τa):mm X Xw (.UnaryOp .Not a pos) (cP τa):=PT.weak (Gq ha) fun σ H Q ⟨F,ρ,s,w⟩=>
 ⟨F,ρ,s,WPB.mono (WPB.bindB w) fun v H1 ⟨F1,e1,w1⟩=>w1 _ _ (Ext.refl e1.fh)⟩
def u7:D→M Bool
 | .non=>M.ret false
 | .bl b=>M.ret b
 | .lst ds=>M.ret (!ds.isEmpty)
 | .tup ds=>M.ret (!ds.isEmpty)
 |_=>M.stuck
def bN(δ:DE):DT:=fun ρ=>δ ρ>>=u7
theorem DenL.isEmpty{K:W.Frag}{F:Hp}{ds:List D}{vs:List V}(h:DenL K F ds vs):ds.isEmpty=vs.isEmpty:=by
 have:=h.len
 cases ds<;>cases vs<;>simp_all
theorem cM(ha:PD X Xw a δa)(he:∀whole,isTrue a X.env whole=(do let v←whole;standAt a.pos;holding [v] (truthy v)):=by intro _;rfl):mm X Xw a (bN δa):=PT.weak (Bw ha he) fun σ H Q ⟨F,ρ,s,w⟩=>by
 refine⟨F,ρ,s,WP.mono (WPB.bind (K:=X.K) w) fun v H1 ⟨F1,d,e1,q1,w1⟩=>?_⟩
 cases d with
 |non=>cases (show _=_ from q1);exact⟨false,rfl,w1 _ _ (Ext.refl e1.fh)⟩
 |bl b=>cases (show _=_ from q1);exact⟨b,rfl,w1 _ _ (Ext.refl e1.fh)⟩
 |lst ds=>
  obtain⟨a,vs,rfl,h2,h3,_⟩:=q1
  exact⟨!ds.isEmpty, .inl ⟨vs,SqL.of (e1.fh _ _ h2),by rw[h3.isEmpty]⟩,w1 _ _ (Ext.refl e1.fh)⟩
 |tup ds=>
  obtain⟨a,vs,rfl,h2,h3,_⟩:=q1
  exact⟨!ds.isEmpty, .inr (.inl ⟨vs,SqT.of (e1.fh _ _ h2),by rw[h3.isEmpty]⟩),w1 _ _ (Ext.refl e1.fh)⟩
 |_=>exact w1.elim
theorem sd{op}(h:PD X Xw a δa):PD X Xw (.BoolOp op [a] pos) δa:=Gf h
theorem r9(ha:PD X Xw a δa)(hb:PD X Xw (.BoolOp .And (b::rest) pos) δb):PD X Xw (.BoolOp .And (a::b::rest) pos) (eV δa δb):=PE.weak (F_ ha hb) fun σ H Q ⟨F,ρ,s,w⟩=>by
 refine⟨F,ρ,s,WP.mono (WP.bind w) fun v H1 ⟨F1,d,e1,q1,w1⟩=>?_⟩
 cases d with
 |bl k=>
  refine⟨k,q1,?_⟩
  cases k with
  |true=>exact⟨F1,ρ,s.ext e1,w1⟩
  |false=>exact WP.now w1 e1.fh rfl
 |_=>exact w1.elim
theorem Iw(ha:PD X Xw a δa)(hb:PD X Xw (.BoolOp .Or (b::rest) pos) δb):PD X Xw (.BoolOp .Or (a::b::rest) pos) (Cy δa δb):=PE.weak (IC ha hb) fun σ H Q ⟨F,ρ,s,w⟩=>by
 refine⟨F,ρ,s,WP.mono (WP.bind w) fun v H1 ⟨F1,d,e1,q1,w1⟩=>?_⟩
 cases d with
 |bl k=>
  refine⟨k,q1,?_⟩
  cases k with
  |false=>exact⟨F1,ρ,s.ext e1,w1⟩
  |true=>exact WP.now w1 e1.fh rfl
 |_=>exact w1.elim
theorem F8(ha:PD X Xw a δa):PD X Xw (.UnaryOp .Not a pos) (Eb δa):=PE.weak (Ge ha) fun σ H Q ⟨F,ρ,s,w⟩=>by
 refine⟨F,ρ,s,WP.mono (WP.bind w) fun v H1 ⟨F1,d,e1,q1,w1⟩=>?_⟩
 cases d with
 |bl k=>exact⟨k,q1,WP.now w1 e1.fh rfl⟩
 |_=>exact w1.elim
theorem Iu(hc:mm X Xw c τa)(ha:PD X Xw a δa)(hb:PD X Xw b δb):PD X Xw (.IfExp c a b pos) (Ea τa δa δb):=PE.weak (Bn hc ha hb) fun σ H Q ⟨F,ρ,s,w⟩=>by
 refine⟨F,ρ,s,WPB.mono (WP.bindB w) fun v H1 ⟨F1,e1,w1⟩=>?_⟩
 cases v with
 |true=>exact⟨F1,ρ,s.ext e1,w1⟩
 |false=>exact⟨F1,ρ,s.ext e1,w1⟩
def vH(p q:Int→Int→Bool)(a b c:DE):DE:=fun ρ=>a ρ>>=fun x=>b ρ>>=fun y=>match x,y with
 | .int i, .int j=>if p i j then c ρ>>=fun z=>gI (fun i j=> .bl (q i j)) y z else M.ret (.bl false)
 |_,_=>M.stuck
theorem qO{p q:Int→Int→Bool}:∀σ H Q,tD X.K Xw (vH p q δa δb δc) σ H Q→wG (x_ fun i j=> .bl (p i j)) (x_ fun i j=> .bl (q i j)) (tD X.K Xw δa) (tD X.K Xw δb) (tD X.K Xw δc) σ H Q:=fun σ H Q ⟨F,ρ,s,w⟩=>by
 refine⟨F,ρ,s,WP.mono (WP.bind w) fun v H1 ⟨F1,d,e1,q1,w1⟩=>?_⟩
 refine⟨F1,ρ,s.ext e1,WP.mono (WP.bind w1) fun u H2 ⟨F2,d',e2,q2,w2⟩=>?_⟩
 cases d with
 |int i=>
  cases d' with
  |int j=>
   refine⟨i,j,q1,q2,p i j,rfl,?_⟩
   have w2:WP X.K Xw F2 H2 (if p i j then δc ρ>>=fun z=>gI (fun i j=> .bl (q i j)) (.int j) z else M.ret (.bl false)) Q:=w2
   cases hp:p i j with
   |false=>
    rw[hp] at w2
    exact WP.now w2 e2.fh rfl
   |true=>
    rw[hp] at w2
    refine⟨F2,ρ,(s.ext e1).ext e2,WP.mono (WP.bind w2) fun u' H3 ⟨F3,Mv,e3,q3,w3⟩=>?_⟩
    exact oB (K:=X.K) (gv:=fun i j=> .bl (q i j)) (gd:=fun i j=> .bl (q i j)) (fun _ _ _=>rfl) Xw F3 H3 u u' (.int j) Mv Q e3.fh q2 q3 w3
  |_=>exact w2.elim
 |_=>exact w2.elim
theorem Bc{op wg:CmpOp}{p q:Int→Int→Bool}(ho:OpR X (compareOp op) (x_ fun i j=> .bl (p i j)))(qd:OpR X (compareOp wg) (x_ fun i j=> .bl (q i j)))(ha:PD X Xw a δa)(hb:PD X Xw b δb)(hc:PD X Xw c δc)
 (hm:lastMarks [op,wg] [b,c]=false:=by with_unfolding_all rfl):PD X Xw (.Compare a [op,wg] [b,c] pos) (vH p q δa δb δc):=PE.weak (Bj ho qd ha hb hc hm) qO
theorem Bs{op wg:CmpOp}{p q:Int→Int→Bool}(ho:OpR X (compareOp op) (x_ fun i j=> .bl (p i j)))(qd:OpR X (compareOp wg) (x_ fun i j=> .bl (q i j)))(ha:PD X Xw a δa)(hb:PD X Xw b δb)(hc:PD X Xw c δc)
 (hm:lastMarks [op,wg] [b,c]=false:=by with_unfolding_all rfl):mm X Xw (.Compare a [op,wg] [b,c] pos) (cf (vH p q δa δb δc)):=PT.weak (Bt ho qd ha hb hc hm) fun σ H Q ⟨F,ρ,s,w⟩=>by
 refine qO σ H _ ⟨F,ρ,s,WP.mono (WPB.bind w) fun v H1 ⟨F1,d,e1,q1,w1⟩=>?_⟩
 cases d with
 |bl k=>exact⟨k,q1,w1 _ _ (Ext.refl e1.fh)⟩
 |_=>exact w1.elim
def sY(K:W.Frag)(r:List V→Hp→VK→Prop)(g:List D→M D):Prop:=∀(Xw:Nat→Hp→Prop) (F H:Hp) (vs:List V) (ds:List D) (Q:VK),Same F H→DenL K F ds vs→WP K Xw F H (g ds) Q→r vs H Q
variable{x:Str}{p:Pos}{e:Expr}{es:List Expr}{δs:DA}{id T:String}{r:List V→Hp→VK→Prop}{g:List D→M D}
theorem BV(h:sY X.K r g):∀σ H Q,tD X.K Xw (dA g δs) σ H Q→K5 r (Mm X.K Xw δs) σ H Q:=fun σ H Q ⟨F,ρ,s,w⟩=>
 ⟨F,ρ,s,WPL.mono (WP.bindL w) fun vs H1 ⟨F1,ds,e1,q1,w1⟩=>h Xw F1 H1 vs ds Q e1.fh q1 w1⟩
theorem ei(hc:CallR X (.builtin id) r)(hd:sY X.K r g)(hg:Gl X x)(hm:X.mg x=none)(hv:bootBuiltins x=some (.builtin id))(ha:mQ X Xw (e::es) δs)(hn:x≠"__name__":=by decide)(rp:(x==("__debug__":Str))=false:=by decide)
 (he:starEach (e::es) X.env=(false,eval e X.env)::starEach es X.env:=by rfl)(nO:(backTo pos (starEach es X.env)).any (·.1)=false:=by rfl):PD X Xw (.Call (.Name x p) (e::es) [] pos) (dA g δs):=
 PE.weak (Bi hc hg hm hv ha hn rp he nO) (BV hd)
theorem qz(hc:CallR X (.type T) r)(hd:sY X.K r g)(hg:Gl X x)(hm:X.mg x=none)(hv:bootBuiltins x=some (.type T))(ha:mQ X Xw (e::es) δs)(hn:x≠"__name__":=by decide)(rp:(x==("__debug__":Str))=false:=by decide)
 (he:starEach (e::es) X.env=(false,eval e X.env)::starEach es X.env:=by rfl)(nO:(backTo pos (starEach es X.env)).any (·.1)=false:=by rfl):PD X Xw (.Call (.Name x p) (e::es) [] pos) (dA g δs):=
 PE.weak (zh hc hg hm hv ha hn rp he nO) (BV hd)
def ba:List D→M D
 |[.lst ds]=>M.ret (.int ds.length)
 |[.tup ds]=>M.ret (.int ds.length)
 |[.str x]=>M.ret (.int x.length)
 |[.scr ns]=>M.ret (.int ns.length)
 |_=>M.stuck
theorem yT:sY X.K (fun xs H Q=>(∃p ys,xs=[.ref p]∧(SqL X.K H p ys∨SqT X.K H p ys)∧Q (.int ys.length) H)∨∃z,xs=[.str z]∧z.length≤sizeLine∧Q (.int z.length) H) ba:=fun Xw F H vs ds Q s h w=>by
 unfold ba at w
 split at w
 ·obtain⟨v,rfl,h1⟩:=h.one
  obtain⟨a,vs,rfl,h2,h3,_⟩:=h1
  exact .inl ⟨a,vs,rfl, .inl (SqL.of (s _ _ h2)),by rw[←h3.len];exact WP.now w s rfl⟩
 ·obtain⟨v,rfl,h1⟩:=h.one
  obtain⟨a,vs,rfl,h2,h3,_⟩:=h1
  exact .inl ⟨a,vs,rfl, .inr (SqT.of (s _ _ h2)),by rw[←h3.len];exact WP.now w s rfl⟩
 ·obtain⟨v,rfl,h1⟩:=h.one
  cases (show _=_ from h1.1)
  exact .inr ⟨_,rfl,by have:=h1.2;have:=e9;omega,WP.now w s rfl⟩
 ·obtain⟨v,rfl,h1⟩:=h.one
  obtain⟨a,rfl,h2,_⟩:=h1
  exact .inl ⟨a,_,rfl, .inl (Same.seq s h2),by rw[List.length_map];exact WP.now w s rfl⟩
 ·exact w.elim
theorem bA(hg:Gl X "len")(hm:X.mg "len"=none)(ha:mQ X Xw [e] δs)(he:starEach [e] X.env=[(false,eval e X.env)]:=by rfl):PD X Xw (.Call (.Name "len" p) [e] [] pos) (dA ba δs):=
 ei (q_.or ra) yT hg hm PySem.boot_len ha (by decide) (by decide) he rfl
def zH:List D→M D
 |[.int i]=>M.ret (.int (if i<0 then -i else i))
 |_=>M.stuck
def vY:List D→M D
 |[.int i, .int j]=>M.ret (.int (if j>i then j else i))
 |_=>M.stuck
def yY:List D→M D
 |[.int i, .int j]=>M.ret (.int (if j<i then j else i))
 |_=>M.stuck
theorem Bb(hg:Gl X "abs")(hm:X.mg "abs"=none)(ha:mQ X Xw [e] δs)(hb:bootBuiltins "abs"=some (.builtin "abs"))(he:starEach [e] X.env=[(false,eval e X.env)]:=by rfl):PD X Xw (.Call (.Name "abs" p) [e] [] pos) (dA zH δs):=
 ei zT (fun Xw F H vs ds Q s h w=>by
  unfold zH at w
  split at w
  ·obtain⟨v,rfl,h1⟩:=h.one
   cases (show _=_ from h1)
   exact⟨_,rfl,WP.now w s rfl⟩
  ·exact w.elim) hg hm hb ha (by decide) (by decide) he rfl
end
theorem WP.xw{K:W.Frag}{Xw Xw':Nat→Hp→Prop}{F H:Hp}{m:M D}{Q:VK}(h:WP K Xw F H m Q)(k:∀n H,Xw n H→Xw' n H):WP K Xw' F H m Q:=by
 match m,h with
 |none,h=>exact h
 |some (.ok d),h=>exact h
 |some (.ex n),h=>exact fun F' H' e=>k n H' (h F' H' e)
theorem da{X:Cx}{Xw:Nat→Hp→Prop}{st:Stmt}{τ:DS}(h:jR X.nox (fun _ _=>False) st τ):jR X Xw st (fun ρ=>noex (τ ρ)):=fun F₀ H₀ pins s σ H D I ⟨F,ρ,S,w⟩=>by
 have w:WPS X.K Xw F₀ H₀ (noex (τ ρ)) D:=w
 have w':tS X.K (fun _ _=>False) F₀ H₀ τ D σ H:=by
  refine⟨F,ρ,S,?_⟩
  rcases(τ ρ).cs with e | ⟨n,e⟩ | ⟨o,e⟩
  ·rw[e] at w;exact w.elim
  ·rw[e] at w;exact w.elim
  ·rw[e] at w⊢
   cases o with
   |nx ρ'=>exact w
   |rt d=>exact w
 refine wpAny_mono (h F₀ H₀ pins s σ H D (I.wish _) w') (fun f s' q=>SP.unwish q) fun _ _ z=>z.elim
def EX(cv:Nat→Value)(Xw:Nat→Hp→Prop):XK:=fun c _ H=>∃n,c=cv n∧Xw n H
def GZ(K:W.Frag)(cv:Nat→Value)(k:Nat)(f:List D→M D):Sp:=fun vs H Q E=>∃F ds,Same F H∧DenL K F ds vs∧vs.length=k∧WP K (fun n H'=>E (cv n) none H') F H (f ds) Q
def bU(n:Nat)(τ:DS):List D→M D:=fun ds=>τ (ds.map (fun d=>some (Sl.fz d))++List.replicate (n - ds.length) none)>>=fun o=>match o with
 | .nx _=>M.ret .non
 | .rt d=>M.ret d
section
variable{P:Program}{w:World}{K:W.Frag}{mg:Str→Option Value}{base:Heap}{CX:vv}{cv:Nat→Value}
theorem Hq{x qual:Str}{st:Stmt}{f:Addr}{fd:FuncData}{N ps:List Str}{k:Nat}{τ:DS}(Fn:Fun K x qual st f fd)(S:FnScope N ps (ag st))
 (nL:∀(bQ:Value) (A:Around) (outer:List Env) (s:Shared) (H:Hp) (E:XK),Room k (A.deeper (envOfC qual (ag st) s.heap.objs.size f bQ))→
  PSDs (fk CX P w K mg base N qual (ag st) f bQ A outer s H E) (fun n H'=>E (cv n) none H') (bx st) τ):FnOk P w K mg base CX (k+1) f fd ps (GZ K cv ps.length (bU N.length τ)):=by
 obtain⟨oc,od,kV,doc,pm,an,bQ,ct,Dl,rfl,lk,vp⟩:=Fn.ex
 refine Eh lk vp S (fun vs H Q E ⟨_,_,_,_,hl,_⟩=>hl) fun A outer s H vs Q E hr Ci=>?_
 obtain⟨F,ds,fh,hd,hl,hw⟩:=Ci
 refine⟨_,nL bQ A outer s H E hr F H,F,ds.map (fun d=>some (Sl.fz d))++List.replicate (N.length - ds.length) none,⟨Ext.refl fh,⟨fh,fun i sl e=>?_⟩,?_,fun i c a e=>?_,fun i j c c' a e=>?_⟩,?_⟩
 ·have hlen:=hd.len
  by_cases hi:i<ds.length
  ·rw[List.getElem?_append_left (by simpa using hi),List.getElem?_map] at e
   cases q:ds[i]? with
   |none=>rw[q] at e;cases e
   |some d=>
    rw[q] at e
    cases e
    obtain⟨v,e1,e2⟩:=hd.get q
    refine⟨v,?_,e2⟩
    unfold L2.start
    rw[List.getElem?_append_left (by simp;omega),List.getElem?_map,e1]
    rfl
  ·rw[List.getElem?_append_right (by simpa using hi),List.getElem?_replicate] at e
   split at e<;>cases e
 ·have hlen:=hd.len
  unfold L2.start
  simp[hlen]
 ·exfalso
  by_cases hi:i<ds.length
  ·rw[List.getElem?_append_left (by simpa using hi),List.getElem?_map] at e
   cases q:ds[i]? with
   |none=>rw[q] at e;cases e
   |some d=>rw[q] at e;cases e
  ·rw[List.getElem?_append_right (by simpa using hi),List.getElem?_replicate] at e
   split at e<;>cases e
 ·exfalso
  by_cases hi:i<ds.length
  ·rw[List.getElem?_append_left (by simpa using hi),List.getElem?_map] at e
   cases q:ds[i]? with
   |none=>rw[q] at e;cases e
   |some d=>rw[q] at e;cases e
  ·rw[List.getElem?_append_right (by simpa using hi),List.getElem?_replicate] at e
   split at e<;>cases e
 ·have hw:WP K (fun n H'=>E (cv n) none H') F H (τ (ds.map (fun d=>some (Sl.fz d))++List.replicate (N.length - ds.length) none)>>=fun o=>match o with | .nx _=>M.ret .non | .rt d=>M.ret d) Q:=hw
  rcases(τ (ds.map (fun d=>some (Sl.fz d))++List.replicate (N.length - ds.length) none)).cs with e | ⟨n,e⟩ | ⟨o,e⟩
  ·rw[e] at hw;exact hw.elim
  ·rw[e] at hw⊢;exact hw
  ·rw[e] at hw⊢
   cases o with
   |nx ρ'=>exact fun σ' F' H' s'=>hw .non H' F' s'.ext rfl
   |rt d=>exact fun v F' H' e' q=>hw v H' F' e' q
end
section
variable{X:Cx}{Xw:Nat→Hp→Prop}{CX:vv}{cv:Nat→Value}{k m:Nat}{f:Addr}{fd:FuncData}{ps:List Str}{g:List D→M D}{x:Str}{p pos:Pos}{e:Expr}{es:List Expr}{δs:DA}
theorem Dm(F:FnOk X.prog X.w X.K X.mg X.base CX k f fd ps (GZ X.K cv m g))(hr:Room k X.A)(hg:Gl X x)(hm:X.mg x=some (.ref f))(hk:PySem.W.keepIn X.K (.ref f)=true)(hb:Binds X.K fd ps [])(hx:Passes CX X (EX cv Xw))
 (ha:mQ X Xw (e::es) δs)(hl:(e::es).length=m)(rp:(x==("__debug__":Str))=false:=by decide)(he:starEach (e::es) X.env=(false,eval e X.env)::starEach es X.env:=by rfl)(nO:(backTo pos (starEach es X.env)).any (·.1)=false:=by rfl):
 PD X Xw (.Call (.Name x p) (e::es) [] pos) (fun ρ=>δs ρ>>=fun ds=>if ds.length=m then g ds else M.stuck):=PE.weak (Du F hr hg hm hk hb .nil hx ha rp he nO) fun σ H Q ⟨F,ρ,s,w⟩=>by
 refine⟨F,ρ,s,WPL.mono (WP.bindL w) fun vs H1 ⟨F1,ds,e1,q1,w1⟩=>?_⟩
 split at w1
 ·rename_i vq
  refine⟨F1,ds,e1.fh,by simpa using q1,by rw[List.append_nil,←q1.len];exact vq,WP.xw w1 fun n H h=>⟨n,rfl,h⟩⟩
 ·exact w1.elim
theorem xN{x:Str}{d:D}{v:V}{u:Value}(hg:Gl X x)(hm:X.mg x=some u)(r:RelV v u)(hd:∀F,Den X.K F d v)(rp:(x==("__debug__":Str))=false:=by decide):PD X Xw (.Name x pos) (dC d):=
 gf (Dx hg hm r rp) hd
end
theorem obj_some{P:Program}{w:World}{H:Hp}{h:Heap}{a:Addr}{o:HO}(x:ObjOk P w H h a o):∃ob,h.get? a=some ob:=by
 cases o with
 |lst xs=>obtain⟨_,_,_,_,e⟩:=x;exact⟨_,e⟩
 |tup xs=>obtain⟨_,_,_,ob,e,_⟩:=x;exact⟨_,e⟩
 |dK au=>obtain⟨_,_,_,_,o,_,_,e,_⟩:=x;exact⟨_,e⟩
 |dT au=>obtain⟨_,_,_,_,o,_,_,e,_⟩:=x;exact⟨_,e⟩
 |set S n=>obtain⟨o,_,_,_,e,_⟩:=x;exact⟨_,e⟩
 |ins C dx fs=>obtain⟨_,_,_,e,_⟩:=x;exact⟨_,e⟩
 |own y=>obtain⟨_,e⟩:=x;exact⟨_,e⟩
 |xd fs=>obtain⟨_,⟨_,_,_,e,_⟩,_⟩:=x;exact⟨_,e⟩
 |rng lo hi=>obtain⟨_,_,_,e⟩:=x;exact⟨_,e⟩
 |frz ob u=>obtain⟨e,_⟩:=x;exact⟨_,e⟩
 |tbl ps=>exact⟨_,(show h.get? a=some _ from x)⟩
 |met f y=>exact⟨_,(show h.get? a=some _ from x)⟩
 |ext φ=>obtain⟨_,⟨_,e⟩,_⟩:=x;exact⟨_,e⟩
def ph(P:Program)(w:World)(cv:Nat→Value):vv:=fun outer H s E e s'=>∃(ea:Addr) (n:Nat) (a0:Value) (B:Heap) (H':Hp),e= .ref ea∧s'.os=s.os∧AllBare s'.gens∧HOk P w H' s'.heap∧Un (mG outer) [] H H' s.heap s'.heap∧
 Heap.FlyingW B outer ea (cv n) a0 s'.heap∧(∀b o,s'.heap.get? b=some o→(H' b≠none∨(s.heap.get? b).isSome=true)→b∉mG outer→B.get? b=some o)∧E (cv n) none H'
section
variable{P:Program}{w:World}{fs:List Addr}{H₀ H:Hp}{h₀ h h':Heap}
theorem D4(u:Un fs [] H₀ H h₀ h)(ka:∀b o,h.get? b=some o→b∉fs→(H b≠none∨(h₀.get? b).isSome=true)→h'.get? b=some o)(kb:∀b o,h.get? b=some o→b∈fs→∃sl,h'.get? b=some {o with slots:=sl}):Un fs [] H₀ H h₀ h' where
 keep:=fun b o e n hb hx=>ka b o (u.keep b o e n hb hx) hb (.inr (by rw[e];rfl))
 slot:=fun b o e n hb hx=>by
  obtain⟨sl,q⟩:=u.slot b o e n hb hx
  obtain⟨GH,q'⟩:=kb b _ q hb
  exact⟨GH,q'⟩
 free:=u.free
 there:=fun b o e hx=>by
  obtain⟨o',q⟩:=u.there b o e hx
  by_cases hb:b∈fs
  ·obtain⟨sl,q'⟩:=kb b _ q hb
   exact⟨_,q'⟩
  ·exact⟨o',ka b o' q hb (.inr (by rw[e];rfl))⟩
 tups:=u.tups
 frzs:=u.frzs
 tbls:=u.tbls
theorem As(x:HOk P w H h)(hf:∀b∈fs,H b=none)(ka:∀b o,h.get? b=some o→b∉fs→H b≠none→h'.get? b=some o):HOk P w H h':=fun a o e=>by
 refine(x a o e).stay (fun b u hb q=>ka b u q (fun z=>?_) ?_) (fun _ q=>q) fun _ _ q=>q
 ·have hz:=hf b z
  rcases hb with rfl | hb
  ·rw[hz] at e;cases e
  ·rw[hz] at hb;cases hb
 ·rcases hb with rfl | hb
  ·rw[e];exact fun z=>nomatch z
  ·rw[hb];exact fun z=>nomatch z
end
section
variable{P:Program}{w:World}{K:W.Frag}{mg:Str→Option Value}{base:Heap}{N:List Str}{qual:Str}{scope:Scope}{f:Addr}{cd:Value}{A:Around}{outer:List Env}{s₀:Shared}{H₀:Hp}{E:XK}{cv:Nat→Value}
theorem aQ:Passes (ph P w cv) (fk (ph P w cv) P w K mg base N qual scope f cd A outer s₀ H₀ E) (EX cv fun n H'=>E (cv n) none H'):=by
 intro pins σ H s e s' I ⟨ea,n,a0,B,H',he,Km,hg,hok,un,Ls,hB,m,hm,hE⟩
 subst he
 have Fd:((fk (ph P w cv) P w K mg base N qual scope f cd A outer s₀ H₀ E)).env.locals=s₀.heap.objs.size:=rfl
 have CQ:mG ((fk (ph P w cv) P w K mg base N qual scope f cd A outer s₀ H₀ E)).stack=s₀.heap.objs.size::mG outer:=rfl
 show wpAny (model P w) (A.deeper (envOfC qual scope s₀.heap.objs.size f cd)) (leaving (envOfC qual scope s₀.heap.objs.size f cd) (.ref ea)) _ _ s'
 refine wpAny_leaves_onW (base:=B) (outer:=outer) (L:=s₀.heap.objs.size) I.ok.frames rfl Ls fun h' EW ups=>?_
 have Eo:∀b∈mG ((fk (ph P w cv) P w K mg base N qual scope f cd A outer s₀ H₀ E)).stack,H' b=none:=fun b hb=>by
  obtain⟨o,ho⟩:∃o,s.heap.get? b=some o:=by
   obtain⟨_,o,ho,_⟩:=I.stack.mem hb
   exact⟨o,ho⟩
  exact un.free b o ho (I.stkFree b hb) (by simp)
 have Eu:∀b o,s'.heap.get? b=some o→b∉mG ((fk (ph P w cv) P w K mg base N qual scope f cd A outer s₀ H₀ E)).stack→(H' b≠none∨(s.heap.get? b).isSome=true)→h'.get? b=some o:=fun b o e hb hc=>EW.1 b o (hB b o e hc hb)
 have unA:Un (mG outer) [] H₀ H' s₀.heap s'.heap:=by
  have u1:Un (mG outer) [] H₀ H s₀.heap s.heap:=I.base
  refine⟨fun b o e nn hb hx=>?_,fun b o e nn hb hx=>?_,fun b o e nn hx=>?_,fun b o e hx=>?_,fun b xs q=>un.tups b xs (u1.tups b xs q),fun b o u q=>un.frzs b o u (u1.frzs b o u q),fun b ps q=>?_⟩
  ·refine un.keep b o (u1.keep b o e nn hb hx) (u1.free b o e nn hx) (fun z=>?_) (by simp)
   rw[CQ] at z
   rcases List.mem_cons.mp z with z | z
   ·exact absurd (Heap.lt_size e) (by rw[z];exact Nat.lt_irrefl _)
   ·exact hb z
  ·obtain⟨sl,q⟩:=u1.slot b o e nn hb hx
   obtain⟨GH,q'⟩:=un.slot b _ q (u1.free b o e nn hx) (by rw[CQ];exact List.mem_cons_of_mem _ hb) (by simp)
   exact⟨GH,q'⟩
  ·obtain⟨o',q⟩:=u1.there b o e hx
   exact un.free b o' q (u1.free b o e nn hx) (by simp)
  ·obtain⟨o',q⟩:=u1.there b o e hx
   exact un.there b o' q (by simp)
  ·obtain⟨m1,q1⟩:=u1.tbls b ps q
   obtain⟨m2,q2⟩:=un.tbls b _ q1
   exact⟨m1++m2,by rw[q2,Array.append_assoc]⟩
 have L7:∀b,(s₀.heap.get? b).isSome=true→(s.heap.get? b).isSome=true:=fun b hb=>by
  obtain⟨o,ho⟩:=Option.isSome_iff_exists.mp hb
  obtain⟨o',q⟩:=(show Un (mG outer) [] H₀ H s₀.heap s.heap from I.base).there b o ho (by simp)
  rw[q];rfl
 have KN:∀b,(s₀.heap.get? b).isSome=true→b≠s₀.heap.objs.size:=fun b hb z=>by
  obtain⟨o,ho⟩:=Option.isSome_iff_exists.mp hb
  exact absurd (Heap.lt_size ho) (by rw[z];exact Nat.lt_irrefl _)
 have Il:∀b,b∉mG outer→(H' b≠none∨(s₀.heap.get? b).isSome=true)→b∉mG ((fk (ph P w cv) P w K mg base N qual scope f cd A outer s₀ H₀ E)).stack:=fun b hb hc z=>by
  rcases hc with hc | hc
  ·exact hc (Eo b z)
  ·rw[CQ] at z
   rcases List.mem_cons.mp z with z | z
   ·exact KN b hc z
   ·exact hb z
 refine⟨ea,n,a0,B,H',rfl,Km.trans I.os,hg,As hok Eo (fun b o e hb hc=>Eu b o e hb (.inl hc)),D4 unA (fun b o e hb hc=>Eu b o e (Il b hb hc) (hc.imp id (L7 b))) (fun b o e hb=>?_),EW,fun b o e hc hb=>?_,?_⟩
 ·obtain⟨_,o',qd,hd⟩:=Ls.2.2.1.mem (show b∈mG ((fk (ph P w cv) P w K mg base N qual scope f cd A outer s₀ H₀ E)).stack by rw[CQ];exact List.mem_cons_of_mem _ hb)
  rw[e] at qd
  cases qd
  exact ups b o e hd
 ·have El:=Il b hb hc
  obtain⟨o',qd⟩:∃o',s'.heap.get? b=some o':=by
   rcases hc with hc | hc
   ·cases q:H' b with
    |none=>exact absurd q hc
    |some u=>
     exact obj_some (hok b u q)
   ·obtain⟨o1,h1⟩:=Option.isSome_iff_exists.mp hc
    exact unA.there b o1 h1 (by simp)
  have:=hB b o' qd (hc.imp id (L7 b)) El
  rw[EW.1 b o' this] at e
  cases e
  exact this
 ·rw[hm];exact hE
end
section
variable{X:Cx}{Xw:Nat→Hp→Prop}{cv:Nat→Value}{n:Nat}{C:Addr}{x:Str}{np bj pos:Pos}{e:Expr}{es:List Expr}{δs:DA}{bm:List Value}{B newId KH:String}
end
def Ew:D→Option String
 | .non=>some "NoneType"
 | .bl _=>some "bool"
 | .int _=>some "int"
 | .str _=>some "str"
 | .tup _=>some "tuple"
 | .lst _=>some "list"
 |_=>none
def Ft(k T:String):Option Bool:=if T="str"∨T="int"∨T="bool"∨T="tuple"∨T="list" then some (decide (k=T)||(decide (k="bool")&&decide (T="int"))) else none
def g7:List D→M D
 |[d, .raw (.ty T)]=>match Ew d with
  |some k=>match Ft k T with
   |some b=>M.ret (.bl b)
   |none=>M.stuck
  |none=>M.stuck
 |_=>M.stuck
theorem FG{K:W.Frag}{k T:String}{b:Bool}(hk:k="NoneType"∨k="bool"∨k="int"∨k="str"∨k="tuple"∨k="list")(h:Ft k T=some b):PySem.W.kitOne K (.type k) (.type T)=some b:=by
 unfold Ft at h
 split at h
 ·rename_i hT
  cases h
  rcases hk with rfl | rfl | rfl | rfl | rfl | rfl<;>rcases hT with rfl | rfl | rfl | rfl | rfl<;>with_unfolding_all rfl
 ·cases h
section
variable{X:Cx}{Xw:Nat→Hp→Prop}{a b e e2:Expr}{es:List Expr}{δa δb:DE}{δs:DA}{pos p:Pos}
def IK(K:W.Frag):List V→Hp→VK→Prop:=fun xs H Q=>∃x T t b,xs=[x, .ty T]∧TyOf K H x t∧PySem.W.kitOne K t (.type T)=some b∧Q (.bl b) H
theorem zU:CallR X (.builtin "isinstance") (IK X.K):=by
 intro pins s σ H xs us Q I r h
 obtain⟨x,T,t,b,rfl,ty,e,q⟩:=h
 obtain⟨u,w',rfl,r1,r2⟩:=vals2 r
 cases (show w'=_ from r2)
 exact yO I r1 ty e fun tk=>⟨.bl b,H,I.tok tk,rfl,q⟩
theorem B1{K:W.Frag}{F H:Hp}{d:D}{v:V}{k:String}(s:Same F H)(h:Den K F d v)(hk:Ew d=some k):TyOf K H v (.type k)∧(k="NoneType"∨k="bool"∨k="int"∨k="str"∨k="tuple"∨k="list"):=by
 cases d with
 |non=>cases hk;cases (show _=_ from h);exact⟨.non, .inl rfl⟩
 |bl x=>cases hk;cases (show _=_ from h);exact⟨.bl x, .inr (.inl rfl)⟩
 |int x=>cases hk;cases (show _=_ from h);exact⟨.int x, .inr (.inr (.inl rfl))⟩
 |str x=>cases hk;cases (show _=_ from h.1);exact⟨.str x, .inr (.inr (.inr (.inl rfl)))⟩
 |tup x=>cases hk;obtain⟨a,vs,rfl,h2,_⟩:=h;exact⟨.tup (s _ _ h2), .inr (.inr (.inr (.inr (.inl rfl))))⟩
 |lst x=>cases hk;obtain⟨a,vs,rfl,h2,_⟩:=h;exact⟨.lst (s _ _ h2), .inr (.inr (.inr (.inr (.inr rfl))))⟩
 |_=>cases hk
theorem yN{K:W.Frag}:sY K (IK K) g7:=fun Xw F H vs ds Q s h w=>by
 unfold g7 at w
 split at w
 ·rename_i d T
  obtain⟨v,v',rfl,h1,h2⟩:=h.two
  cases (show _=_ from h2)
  split at w
  ·rename_i k hk
   split at w
   ·rename_i b hb
    obtain⟨ty,tT⟩:=B1 s h1 hk
    exact⟨v,T, .type k,b,rfl,ty,FG tT hb,WP.now w s rfl⟩
   ·exact w.elim
  ·exact w.elim
 ·exact w.elim
theorem k_(hg:Gl X "isinstance")(hm:X.mg "isinstance"=none)(hb:bootBuiltins "isinstance"=some (.builtin "isinstance"))(ha:mQ X Xw [e,e2] δs)(he:starEach [e,e2] X.env=(false,eval e X.env)::starEach [e2] X.env:=by rfl)
 (nO:(backTo pos (starEach [e2] X.env)).any (·.1)=false:=by rfl):PD X Xw (.Call (.Name "isinstance" p) [e,e2] [] pos) (dA g7 δs):=
 ei zU yN hg hm hb ha (by decide) (by decide) he nO
theorem qB{x:Str}{T:String}(hg:Gl X x)(hm:X.mg x=none)(hv:bootBuiltins x=some (.type T))(hn:x≠"__name__":=by decide)(hd:(x==("__debug__":Str))=false:=by decide):PD X Xw (.Name x pos) (dC (.raw (.ty T))):=
 gf (v:= .ty T) (Dt hg hm hv (show RelV (.ty T) (.type T) from rfl) hn hd) fun _=>rfl
def bools:List D→Option (List Bool)
 |[]=>some []
 | .bl b::r=>(bools r).map (b:: ·)
 |_=>none
def allM:List D→M D
 |[.lst ds]=>match bools ds with
  |some bs=>M.ret (.bl (bs.all id))
  |none=>M.stuck
 |_=>M.stuck
theorem pX{K:W.Frag}{F:Hp}:∀{ds:List D}{vs:List V}{bs:List Bool},bools ds=some bs→DenL K F ds vs→vs=bs.map V.bl
 |[],_,_,e,h=>by cases e;exact h
 | .bl b::r,_,_,e,⟨v,r',h1,h2,h3⟩=>by
   unfold bools at e
   cases q:bools r with
   |none=>rw[q] at e;cases e
   |some bs=>rw[q] at e;cases e;subst h1;rw[pX q h3,show v= .bl b from h2];rfl
 | .non::_,_,_,e,_=>by cases e
 | .int _::_,_,_,e,_=>by cases e
 | .str _::_,_,_,e,_=>by cases e
 | .raw _::_,_,_,e,_=>by cases e
 | .exc _::_,_,_,e,_=>by cases e
 | .scr _::_,_,_,e,_=>by cases e
 | .tup _::_,_,_,e,_=>by cases e
 | .lst _::_,_,_,e,_=>by cases e
theorem yg:∀{bs:List Bool}{aF:List Value},Vals (bs.map V.bl) aF→aF=bs.map Value.bool
 |[],_,r=>by cases r;rfl
 |b::bs,_,r=>by
  cases r with
  |cons r1 r2=>cases (show _=_ from r1);rw[yg r2];rfl
def KW:List V→Hp→VK→Prop:=fun xs H Q=>∃(a:Addr) (bs:List Bool),xs=[.ref a]∧H a=some (.lst (bs.map V.bl))∧Q (.bl (bs.all id)) H
theorem all_range{bs:List Bool}:(List.range bs.length).all (fun i=>bs.getD i false)=bs.all id:=by
 induction bs with
 |nil=>rfl
 |cons b bs ih=>
  rw[List.length_cons,List.range_succ_eq_map,List.all_cons,List.all_map,List.all_cons]
  congr 1
theorem yt(hc:X.calm=true):CallR X (.builtin "all") KW:=by
 intro pins s σ H xs us Q I r h
 obtain⟨a,bs,rfl,hH,q⟩:=h
 obtain⟨u,rfl,r1⟩:=vals1 r
 cases (show u=_ from r1)
 obtain⟨aF,r2,pl,hz⟩:=I.list (SqL.of (K:=X.K) hH)
 obtain rfl:=yg r2
 have fm:a≠s.heap.objs.size:=Nat.ne_of_lt (I.hok.lt hH)
 refine call_all_walk (wpAny_pyIter_list pl.isList ?_)
 refine⟨s.heap.objs.size,_,_,_,_,_,fun i=>bs.getD i false,rfl,Walks.list (A:=X.A.in1) (show X.A.in1.handled=none from I.ok.hd hc) s.heap.objs.size a fm (bs.map Value.bool).toArray,⟨⟨_,Heap.get?_push_size _ rfl,rfl,rfl⟩,Heap.IsList.at pl.isList fun o e=>Heap.get?_push_of_some _ e⟩,?_,fun h' tk k=>?_⟩
 ·intro i v s' Q' E' hv hq
  have hv:(bs.map Value.bool).toArray[i]? =some v:=hv
  rw[List.getElem?_toArray,List.getElem?_map] at hv
  cases q':bs[i]? with
  |none=>rw[q'] at hv;cases hv
  |some b=>
   rw[q'] at hv
   cases hv
   have:bs.getD i false=b:=by rw[List.getD_eq_getElem?_getD,q'];rfl
   have hq:Q' (bs.getD i false) s':=hq
   rw[this] at hq
   exact wpAny_truthy_bool hq
 ·have e:(List.range (bs.map Value.bool).toArray.size).all (fun i=>bs.getD i false)=bs.all id:=by
   rw[List.size_toArray,List.length_map];exact all_range
  rw[e]
  refine⟨.bl (bs.all id),H,I.kept (h':=h') (t':=tk) fun b o e'=>k b o (fun z=>?_) (Heap.get?_push_of_some _ e'),rfl,q⟩
  have z:b=s.heap.objs.size:=by simpa using z
  exact absurd (Heap.lt_size e') (by rw[z];exact Nat.lt_irrefl _)
theorem wm(hc:X.calm=true)(hg:Gl X "all")(hm:X.mg "all"=none)(hb:bootBuiltins "all"=some (.builtin "all"))(ha:mQ X Xw [e] δs)(he:starEach [e] X.env=[(false,eval e X.env)]:=by rfl):PD X Xw (.Call (.Name "all" p) [e] [] pos) (dA allM δs):=
 ei (yt hc) (fun Xw F H vs ds Q s h w=>by
  unfold allM at w
  split at w
  ·rename_i ds
   obtain⟨v,rfl,h1⟩:=h.one
   obtain⟨a,ws,rfl,h2,h3,_⟩:=h1
   split at w
   ·rename_i bs hb
    exact⟨a,bs,rfl,by rw[←pX hb h3];exact s _ _ h2,WP.now w s rfl⟩
   ·exact w.elim
  ·exact w.elim) hg hm hb ha (by decide) (by decide) he rfl
end
section
variable{X:Cx}{Xw:Nat→Hp→Prop}{a b e e2:Expr}{es:List Expr}{δ δa δb:DE}{δs:DA}{pos p apos bj:Pos}
theorem D0{i:Nat}:∀F₀ H₀ D σ H,tS X.K Xw F₀ H₀ (jf i δ) D σ H→BX (K4 X.K "list" xZ (o6 i) (BW (tD X.K Xw δ) GK)) D σ H:=fun F₀ H₀ D σ H ⟨F,ρ,s,w⟩=>by
 unfold jf at w
 cases ho:zb ρ i with
 |none=>rw[ho] at w;exact w.elim
 |some ds=>
  rw[ho] at w
  have hi:=qw ho
  obtain⟨v,hv,a,o,rfl,hH,hF,vs,rfl,hd,hl⟩:=s.st.den i _ hi
  have w:WPS X.K Xw F₀ H₀ (δ ρ>>=fun d=>if ds.length<lim then M.ret (.nx (ρ.set i (some (.ow (.lst (ds++[d])))))) else M.stuck) D:=w
  refine⟨.ref a,hv, .inl ⟨rfl,vs,SqL.of hH⟩,F,ρ,s.st,?_⟩
  rcases(δ ρ).cs with q | ⟨n,q⟩ | ⟨d,q⟩
  ·rw[q] at w;exact w.elim
  ·rw[q] at w⊢;exact fun F' H' e'=>w F' H' (s.ext.trans e')
  ·rw[q] at w⊢
   intro u H1 F1 e1 hq
   have w:WPS X.K Xw F₀ H₀ (if ds.length<lim then M.ret (.nx (ρ.set i (some (.ow (.lst (ds++[d])))))) else M.stuck) D:=w
   split at w
   ·rename_i dO
    have hlen:=hd.len
    refine⟨a,vs,u,rfl,rfl,e1.hh _ _ hH,by have:=e9;omega,?_⟩
    exact w σ F1 _ ((s.ext' e1).chg (c₀:= .lst (ds++[d])) hi hv ⟨_,rfl,DenL.append (DenL.mono e1.ff hd) (.cons hq .nil),by rw[List.length_append];exact dO⟩)
   ·exact w.elim
theorem D1{i:Nat}:∀F₀ H₀ D σ H,tS X.K Xw F₀ H₀ (wy i δ) D σ H→BX (K4 X.K "list" x2 (o6 i) (BW (tD X.K Xw δ) GK)) D σ H:=fun F₀ H₀ D σ H ⟨F,ρ,s,w⟩=>by
 unfold wy at w
 cases ho:zb ρ i with
 |none=>rw[ho] at w;exact w.elim
 |some ds=>
  rw[ho] at w
  have hi:=qw ho
  obtain⟨v,hv,a,o,rfl,hH,hF,vs,rfl,hd,hl⟩:=s.st.den i _ hi
  have w:WPS X.K Xw F₀ H₀ (δ ρ>>=fun d=>lstM d>>=fun es=>if ds.length+es.length≤lim then M.ret (.nx (ρ.set i (some (.ow (.lst (ds++es)))))) else M.stuck) D:=w
  refine⟨.ref a,hv, .inl ⟨rfl,vs,SqL.of hH⟩,F,ρ,s.st,?_⟩
  rcases(δ ρ).cs with q | ⟨n,q⟩ | ⟨d,q⟩
  ·rw[q] at w;exact w.elim
  ·rw[q] at w⊢;exact fun F' H' e'=>w F' H' (s.ext.trans e')
  ·rw[q] at w⊢
   intro u H1 F1 e1 hq
   cases d with
   |lst es=>
    obtain⟨b,ws,rfl,k2,k3,k4⟩:=hq
    have w:WPS X.K Xw F₀ H₀ (if ds.length+es.length≤lim then M.ret (.nx (ρ.set i (some (.ow (.lst (ds++es)))))) else M.stuck) D:=w
    split at w
    ·rename_i dO
     have hlen:=hd.len
     have LQ:=k3.len
     refine⟨a,b,vs,ws,rfl,rfl,e1.hh _ _ hH,e1.fh _ _ k2,by have:=e9;omega,?_⟩
     exact w σ F1 _ ((s.ext' e1).chg (c₀:= .lst (ds++es)) hi hv ⟨_,rfl,DenL.append (DenL.mono e1.ff hd) k3,by rw[List.length_append];exact dO⟩)
    ·exact w.elim
   |_=>exact w.elim
theorem i7{i:Nat}{x:Str}(hv:PE X (.Name x p) (o6 i))(he:PD X Xw e δ)(hs:swapsWith (.Call (.Attribute (.Name x p) "append" apos) [e] [] bj) none pos.line X.env=pure false:=by rfl)
 (j1:attributeBase (.Name x p) "append" X.env (eval (.Name x p) X.env)=eval (.Name x p) X.env:=by rfl)
 (rq:((backTo bj (starEach [e] X.env)).all (fun x=>!x.1)&&(backToKw bj (keywordEach [] X.env)).all (fun x=>x.1.isSome)&&decide ([e].length+([]:List Keyword).length+(if ([]:List Keyword).isEmpty then 0 else 1)<30))=true:=by rfl)
 (j2:(apos.endLine==bj.line)=true:=by rfl)(Au:starEach [e] X.env=[(false,eval e X.env)]:=by rfl):jR X Xw (.Expr (.Call (.Attribute (.Name x p) "append" apos) [e] [] bj) pos) (jf i δ):=fun F₀ H₀=>
 PS.weak (mN (Bh PySem.F.plainAttrs_list PySem.F.slot_list_append PySem.F.type_list_append qo hv (rZ he r0 Au) j1 rq j2 Au rfl) hs) fun D σ H w=>D0 F₀ H₀ D σ H w
theorem xU{i:Nat}{x:Str}(hv:PE X (.Name x p) (o6 i))(he:PD X Xw e δ)(hs:swapsWith (.Call (.Attribute (.Name x p) "extend" apos) [e] [] bj) none pos.line X.env=pure false:=by rfl)
 (j1:attributeBase (.Name x p) "extend" X.env (eval (.Name x p) X.env)=eval (.Name x p) X.env:=by rfl)
 (rq:((backTo bj (starEach [e] X.env)).all (fun x=>!x.1)&&(backToKw bj (keywordEach [] X.env)).all (fun x=>x.1.isSome)&&decide ([e].length+([]:List Keyword).length+(if ([]:List Keyword).isEmpty then 0 else 1)<30))=true:=by rfl)
 (j2:(apos.endLine==bj.line)=true:=by rfl)(Au:starEach [e] X.env=[(false,eval e X.env)]:=by rfl):jR X Xw (.Expr (.Call (.Attribute (.Name x p) "extend" apos) [e] [] bj) pos) (wy i δ):=fun F₀ H₀=>
 PS.weak (mN (Bh PySem.F.plainAttrs_list PySem.F.slot_list_extend PySem.F.type_list_extend yZ hv (rZ he r0 Au) j1 rq j2 Au rfl) hs) fun D σ H w=>D1 F₀ H₀ D σ H w
theorem A4:OpR X (binaryOp .Add) (fun x y H Q=>∃a b ys,x= .ref a∧y= .ref b∧SqT X.K H a []∧SqT X.K H b ys∧Q (.ref b) H):=by
 intro pins s σ H x y v u Q I rx ry h
 obtain⟨a,b,ys,rfl,rfl,ha,hb,q⟩:=h
 cases rx
 cases ry
 obtain⟨aF,r1,p1,_⟩:=I.tuple ha
 obtain⟨f7,r2,p2,_⟩:=I.tuple hb
 cases r1
 obtain⟨⟨cls,dd,data,sl⟩,ho,hc,n,hd⟩:=id p1
 obtain⟨⟨JO,CA,data2,Jz⟩,Fi,E5,n2,hd2⟩:=id p2
 simp only at hc hd E5 hd2
 subst hc hd E5 hd2
 exact concat_meets ⟨_,ho,rfl⟩ ⟨_,Fi,rfl⟩ noFill_tuple_add seq_tuple_add PySem.F.slot_tuple_add PySem.F.entry_tuple_add (PySem.F.args_tuple_add_2 _ _)
  (tuple_addW0 a b _ _ n n2 dd CA sl Jz (by simp)) ⟨ho,Fi,⟨.ref b,H,I,rfl,q⟩⟩
def tP:D→D→M D
 | .tup x, .tup y=>if x.length+y.length≤lim then M.ret (.tup (x++y)) else M.stuck
 |_,_=>M.stuck
theorem Dp(ha:PD X Xw a δa)(hb:PD X Xw b δb):PD X Xw (.BinOp a .Add b pos) (d2 tP δa δb):=qA (A4.or De) (fun Xw F H x y dx dy Q s hx hy w=>by
 unfold tP at w
 split at w
 ·rename_i i j
  obtain⟨a,vs,h1,h2,h3,h4⟩:=hx
  obtain⟨a',vs',k1,k2,k3,k4⟩:=hy
  split at w
  ·rename_i hl
   have e1:=h3.len
   have e2:=k3.len
   have:=e9
   by_cases hv:vs=[]
   ·subst hv
    have:i=[]:=by cases i with | nil=>rfl | cons _ _=>simp at e1
    subst this
    exact .inl ⟨a,a',vs',h1,k1,SqT.of (s _ _ h2),SqT.of (s _ _ k2),WP.now w s ⟨a',vs',k1▸rfl,k2,k3,k4⟩⟩
   ·refine .inr ⟨a,a',vs,vs',h1,k1,SqT.of (s _ _ h2),SqT.of (s _ _ k2),hv,by omega,fun z=>?_,fun z p hp=>?_⟩
    ·subst z
     have:j=[]:=by cases j with | nil=>rfl | cons _ _=>simp at e2
     subst this
     rw[List.append_nil] at w
     exact WP.now w s ⟨a,vs,rfl,h2,h3,h4⟩
    ·exact WP.fin w (Ext.lay s hp) ⟨p,_,rfl,aD,DenL.mono (Ext.lay s hp).ff (h3.append k3),by rw[List.length_append];exact hl⟩
  ·exact w.elim
 ·exact w.elim) ha hb
end
section
variable{X:Cx}{Xw:Nat→Hp→Prop}{a b e e2 o:Expr}{es:List Expr}{δ δa δb δo:DE}{δs:DA}{pos p apos bj:Pos}
def dM(kd:D→Bool)(g:D→List D→M D)(o:DE)(s:DA):DE:=fun ρ=>o ρ>>=fun d=>if kd d then s ρ>>=fun ds=>g d ds else M.stuck
theorem Ir{T:String}{name:Str}{id:String}{r:V→List V→Hp→VK→Prop}{kd:D→Bool}{g:D→List D→M D}(pa:PlainAttrs T)(slot:Slot T name id)(Ks:typeOf (.builtin id)=pure (.type "method_descriptor"))(hm:JI X id r)
 (hk:∀(F H:Hp) (x:V) (d:D),kd d=true→Same F H→Den X.K F d x→JD X.K T x H)
 (hd:∀(Xw:Nat→Hp→Prop) (F H:Hp) (x:V) (vs:List V) (d:D) (ds:List D) (Q:VK),Same F H→Den X.K F d x→DenL X.K F ds vs→WP X.K Xw F H (g d ds) Q→r x vs H Q)
 (ho:PD X Xw o δo)(ha:mQ X Xw (e::es) δs)
 (j1:attributeBase o name X.env (eval o X.env)=eval o X.env:=by rfl)
 (rq:((backTo bj (starEach (e::es) X.env)).all (fun x=>!x.1)&&(backToKw bj (keywordEach [] X.env)).all (fun x=>x.1.isSome)
  &&decide ((e::es).length+([]:List Keyword).length+(if ([]:List Keyword).isEmpty then 0 else 1)<30))=true:=by rfl)
 (j2:(apos.endLine==bj.line)=true:=by rfl) (hs:starEach (e::es) X.env=(false,eval e X.env)::starEach es X.env:=by rfl) (vS:(backTo bj (starEach es X.env)).any (·.1)=false:=by rfl):
 PD X Xw (.Call (.Attribute o name apos) (e::es) [] bj) (dM kd g δo δs):=PE.weak (Bh pa slot Ks hm ho ha j1 rq j2 hs vS) fun σ H Q ⟨F,ρ,s,w⟩=>by
 refine⟨F,ρ,s,WP.mono (WP.bind w) fun v H1 ⟨F1,d,e1,q1,w1⟩=>?_⟩
 split at w1
 ·rename_i Nh
  refine⟨hk F1 H1 v d Nh e1.fh q1,F1,ρ,s.ext e1,WPL.mono (WP.bindL w1) fun vs H2 ⟨F2,ds,e2,q2,w2⟩=>?_⟩
  exact hd Xw F2 H2 v vs d ds Q e2.fh (Den.mono e2.ff q1) q2 w2
 ·exact w1.elim
def Ay:D→Bool
 | .str _=>true
 |_=>false
theorem Fs{K:W.Frag}(F H:Hp)(x:V)(d:D)(h:Ay d=true)(s:Same F H)(q:Den K F d x):JD K "str" x H:=by
 cases d with
 |str z=>cases (show _=_ from q.1);exact rfl
 |_=>cases h
def mC:List D→Option (List Str)
 |[]=>some []
 | .str x::r=>(mC r).map (x:: ·)
 |_=>none
theorem o8{K:W.Frag}{F:Hp}:∀{ds:List D}{vs:List V}{xs:List Str},mC ds=some xs→DenL K F ds vs→vs=xs.map V.str
 |[],_,_,e,h=>by cases e;exact h
 | .str b::r,_,_,e,⟨v,r',h1,h2,h3⟩=>by
   unfold mC at e
   cases q:mC r with
   |none=>rw[q] at e;cases e
   |some bs=>rw[q] at e;cases e;subst h1;rw[o8 q h3,show v= .str b from h2.1];rfl
 | .non::_,_,_,e,_=>by cases e
 | .int _::_,_,_,e,_=>by cases e
 | .bl _::_,_,_,e,_=>by cases e
 | .raw _::_,_,_,e,_=>by cases e
 | .exc _::_,_,_,e,_=>by cases e
 | .scr _::_,_,_,e,_=>by cases e
 | .tup _::_,_,_,e,_=>by cases e
 | .lst _::_,_,_,e,_=>by cases e
theorem o_:∀{xs:List Str}{aF:List Value},Vals (xs.map V.str) aF→StrsAre aF xs
 |[],_,r=>by cases r;exact .nil
 |b::bs,_,r=>by
  cases r with
  |cons r1 r2=>obtain⟨t,rfl⟩:=r1;exact .cons b t (o_ r2)
def dr:List Str→Str
 |[]=>⟨#[]⟩
 |x::r=>x++dr r
def joinM:D→List D→M D
 | .str sep,[.lst ds]=>match mC ds with
   |some xs=>if sep.length=0∧(xs.map (·.length)).sum≤lim then M.ret (.str (dr xs)) else M.stuck
   |none=>M.stuck
 | .str sep,[.tup ds]=>match mC ds with
   |some xs=>if sep.length=0∧(xs.map (·.length)).sum≤lim then M.ret (.str (dr xs)) else M.stuck
   |none=>M.stuck
 |_,_=>M.stuck
theorem m6:∀xs:List Str,(dr xs).length=(xs.map (·.length)).sum
 |[]=>rfl
 |x::r=>by
  show (x++dr r).length=_
  rw[iM,m6 r,List.map_cons,List.sum_cons]
theorem DY{x:Str}(h:x.length=0):x=⟨#[]⟩:=by
 obtain⟨⟨l⟩⟩:=x
 have:l.length=0:=h
 cases l with
 |nil=>rfl
 |cons _ _=>simp at this
theorem ma(x:Str):x++(⟨#[]⟩:Str)=x:=by
 obtain⟨c⟩:=x
 show (⟨c++ #[]⟩:Str)=⟨c⟩
 simp
theorem lH(sep:Str)(h:sep.length=0):∀xs:List Str,Txt.join sep xs=dr xs:=by
 have e:=DY h
 subst e
 intro xs
 show Builtin.Str.glued _ xs=_
 rw[StrLaws.glued_eq_join]
 induction xs with
 |nil=>rfl
 |cons x r ih=>
  cases r with
  |nil=>show x=x++(⟨#[]⟩:Str);rw[ma]
  |cons y r=>show x++(⟨#[]⟩:Str)++Str.join _ (y::r)=x++dr (y::r);rw[ma,ih]
def rJoin(K:W.Frag):V→List V→Hp→VK→Prop:=fun x vs H Q=>∃(sep:Str) (a:Addr) (xs:List Str),x= .str sep∧vs=[.ref a]∧(H a=some (.lst (xs.map V.str))∨H a=some (.tup (xs.map V.str)))∧sep.length=0∧(xs.map (·.length)).sum≤lim∧Q (.str (dr xs)) H
theorem C8:JI X "str.join" (rJoin X.K):=by
 intro pins s σ H x vs v us Q I rx rv h
 obtain⟨sep,a,xs,rfl,rfl,hH,hs,hl,q⟩:=h
 obtain⟨t,rfl⟩:=rx
 obtain⟨u,rfl,r1⟩:=rv.one
 cases (show u=_ from r1)
 have hok:(xs.map (·.length)).sum+xs.length*sep.length≤16777216:=by
  rw[hs,Nat.mul_zero]
  unfold lim at hl
  omega
 rcases hH with hH | hH
 ·obtain⟨aF,r2,pl,hz⟩:=I.list (SqL.of (K:=X.K) hH)
  refine join_list pl.isList (by simpa using o_ r2) hok fun t' k=>⟨.str (dr xs),H,I.tok k,⟨t',by rw[lH sep hs]⟩,q⟩
 ·obtain⟨aF,r2,pl,hz⟩:=I.tuple (SqT.of (K:=X.K) hH)
  refine join_tuple pl (by simpa using o_ r2) hok fun t' k=>⟨.str (dr xs),H,I.tok k,⟨t',by rw[lH sep hs]⟩,q⟩
theorem xQ(ho:PD X Xw o δo)(ha:mQ X Xw [e] δs)(j1:attributeBase o "join" X.env (eval o X.env)=eval o X.env:=by rfl)
 (rq:((backTo bj (starEach [e] X.env)).all (fun x=>!x.1)&&(backToKw bj (keywordEach [] X.env)).all (fun x=>x.1.isSome)&&decide ([e].length+([]:List Keyword).length+(if ([]:List Keyword).isEmpty then 0 else 1)<30))=true:=by rfl)
 (j2:(apos.endLine==bj.line)=true:=by rfl)(Au:starEach [e] X.env=[(false,eval e X.env)]:=by rfl):PD X Xw (.Call (.Attribute o "join" apos) [e] [] bj) (dM Ay joinM δo δs):=
 Ir PySem.F.plainAttrs_str PySem.F.slot_str_join PySem.F.type_str_join C8 Fs (fun Xw F H x vs d ds Q s hx hv w=>by
  unfold joinM at w
  split at w
  ·rename_i sep ds
   obtain⟨v,rfl,h1⟩:=hv.one
   obtain⟨a,ws,rfl,h2,h3,_⟩:=h1
   split at w
   ·rename_i xs HZ
    split at w
    ·rename_i hc
     exact⟨sep,a,xs,hx.1,rfl, .inl (by rw[←o8 HZ h3];exact s _ _ h2),hc.1,hc.2,WP.now w s ⟨rfl,by rw[m6];exact hc.2⟩⟩
    ·exact w.elim
   ·exact w.elim
  ·rename_i sep ds
   obtain⟨v,rfl,h1⟩:=hv.one
   obtain⟨a,ws,rfl,h2,h3,_⟩:=h1
   split at w
   ·rename_i xs HZ
    split at w
    ·rename_i hc
     exact⟨sep,a,xs,hx.1,rfl, .inr (by rw[←o8 HZ h3];exact s _ _ h2),hc.1,hc.2,WP.now w s ⟨rfl,by rw[m6];exact hc.2⟩⟩
    ·exact w.elim
   ·exact w.elim
  ·exact w.elim) ho ha j1 rq j2 Au rfl
def B0:List D→M D
 |[.lst ds]=>M.ret (.tup ds)
 |[.tup ds]=>M.ret (.tup ds)
 |_=>M.stuck
theorem Bg(hg:Gl X "tuple")(hm:X.mg "tuple"=none)(hb:bootBuiltins "tuple"=some (.type "tuple"))(ha:mQ X Xw [e] δs)(he:starEach [e] X.env=[(false,eval e X.env)]:=by rfl):PD X Xw (.Call (.Name "tuple" p) [e] [] pos) (dA B0 δs):=
 qz pq (fun Xw F H vs ds Q s h w=>by
  unfold B0 at w
  split at w
  ·rename_i ds
   obtain⟨v,rfl,h1⟩:=h.one
   obtain⟨a,ws,rfl,h2,h3,h4⟩:=h1
   exact⟨a,ws,rfl, .inl ⟨SqL.of (s _ _ h2),fun l hl=>WP.fin w (Ext.lay s hl) ⟨l,ws,rfl,aD,DenL.mono (Ext.lay s hl).ff h3,h4⟩⟩⟩
  ·rename_i ds
   obtain⟨v,rfl,h1⟩:=h.one
   obtain⟨a,ws,rfl,h2,h3,h4⟩:=h1
   exact⟨a,ws,rfl, .inr ⟨SqT.of (s _ _ h2),WP.now w s ⟨a,ws,rfl,h2,h3,h4⟩⟩⟩
  ·exact w.elim) hg hm hb ha (by decide) (by decide) he rfl
theorem wt(hc:X.calm=true)(hg:Gl X "max")(hm:X.mg "max"=none)(hb:bootBuiltins "max"=some (.builtin "max"))(ha:mQ X Xw [e,e2] δs)(he:starEach [e,e2] X.env=(false,eval e X.env)::starEach [e2] X.env:=by rfl)
 (nO:(backTo pos (starEach [e2] X.env)).any (·.1)=false:=by rfl):PD X Xw (.Call (.Name "max" p) [e,e2] [] pos) (dA vY δs):=
 ei (yu hc) (fun Xw F H vs ds Q s h w=>by
  unfold vY at w
  split at w
  ·obtain⟨v,v',rfl,h1,h2⟩:=h.two
   cases (show _=_ from h1)
   cases (show _=_ from h2)
   exact⟨_,_,rfl,WP.now w s rfl⟩
  ·exact w.elim) hg hm hb ha (by decide) (by decide) he nO
theorem Bf(hc:X.calm=true)(hg:Gl X "min")(hm:X.mg "min"=none)(hb:bootBuiltins "min"=some (.builtin "min"))(ha:mQ X Xw [e,e2] δs)(he:starEach [e,e2] X.env=(false,eval e X.env)::starEach [e2] X.env:=by rfl)
 (nO:(backTo pos (starEach [e2] X.env)).any (·.1)=false:=by rfl):PD X Xw (.Call (.Name "min" p) [e,e2] [] pos) (dA yY δs):=
 ei (yw hc) (fun Xw F H vs ds Q s h w=>by
  unfold yY at w
  split at w
  ·obtain⟨v,v',rfl,h1,h2⟩:=h.two
   cases (show _=_ from h1)
   cases (show _=_ from h2)
   exact⟨_,_,rfl,WP.now w s rfl⟩
  ·exact w.elim) hg hm hb ha (by decide) (by decide) he nO
def nums:List D→Option (List Int)
 |[]=>some []
 | .int x::r=>(nums r).map (x:: ·)
 |_=>none
theorem j4{K:W.Frag}{F:Hp}:∀{ds:List D}{vs:List V}{xs:List Int},nums ds=some xs→DenL K F ds vs→vs=xs.map V.int
 |[],_,_,e,h=>by cases e;exact h
 | .int b::r,_,_,e,⟨v,r',h1,h2,h3⟩=>by
   unfold nums at e
   cases q:nums r with
   |none=>rw[q] at e;cases e
   |some bs=>rw[q] at e;cases e;subst h1;rw[j4 q h3,show v= .int b from h2];rfl
 | .non::_,_,_,e,_=>by cases e
 | .str _::_,_,_,e,_=>by cases e
 | .bl _::_,_,_,e,_=>by cases e
 | .raw _::_,_,_,e,_=>by cases e
 | .exc _::_,_,_,e,_=>by cases e
 | .scr _::_,_,_,e,_=>by cases e
 | .tup _::_,_,_,e,_=>by cases e
 | .lst _::_,_,_,e,_=>by cases e
def CL(neg:Bool):D→D→M D
 | .int i, .tup ds=>match nums ds with | some ns=>M.ret (.bl (if neg then !ns.contains i else ns.contains i)) | none=>M.stuck
 |_,_=>M.stuck
theorem Aw(i:Int)(ns:List Int):Jv (.int i) (ns.map V.int)=ns.contains i:=by
 unfold Jv
 rw[List.any_map]
 induction ns with
 |nil=>rfl
 |cons n ns ih=>
  rw[List.any_cons,List.contains_cons,ih]
  congr 1
  show B9 (.int n) (.int i)=(i==n)
  unfold B9
  exact Bool.beq_comm
theorem Fo{neg:Bool}{K:W.Frag}:vo K (Mi K neg) (CL neg):=fun Xw F H x y dx dy Q s hx hy w=>by
 unfold CL at w
 split at w
 ·rename_i i ds
  obtain⟨a,vs,h1,h2,h3,h4⟩:=hy
  split at w
  ·rename_i ns hn
   have hv:=j4 hn h3
   subst hv
   cases (show _=_ from hx)
   refine⟨a,ns.map V.int,h1, .inr (SqT.of (s _ _ h2)),rfl,?_,?_⟩
   ·rw[List.all_map]
    exact List.all_eq_true.mpr fun _ _=>rfl
   ·rw[Aw]
    exact WP.now w s rfl
  ·exact w.elim
 ·exact w.elim
theorem zk(ha:PD X Xw a δa)(hb:PD X Xw b δb)(hm:behindInMarks .NotIn b=false:=by rfl):mm X Xw (.Compare a [.NotIn] [b] pos) (cf (d2 (CL true) δa δb)):=eI rY Fo ha hb hm
def Ah(neg:Bool):D→D→M D
 | .str x, .str y=>M.ret (.bl (if neg then !(!(Builtin.Str.occurrences y x 0 y.length 1).isEmpty) else !(Builtin.Str.occurrences y x 0 y.length 1).isEmpty))
 |_,_=>M.stuck
theorem FZ(ha:PD X Xw a δa)(hb:PD X Xw b δb)(hm:behindInMarks .In b=false:=by rfl):PD X Xw (.Compare a [.In] [b] pos) (d2 (Ah false) δa δb):=oK y9 (fun Xw F H x y dx dy Q s hx hy w=>by
 unfold Ah at w
 split at w
 ·exact⟨_,_,hx.1,hy.1,WP.now w s rfl⟩
 ·exact w.elim) ha hb hm
end
end L3
namespace L3
open PySem PySem.Spec L2 SeqAt HT
open PyProof.Rows hiding St
section
variable{prog:Program}{w:World}{A:Around}{E:Value→Shared→Prop}{s:Shared}
end
section
variable{X:Cx}{Xw:Nat→Hp→Prop}{a b e:Expr}{lo hi:Option Expr}{δ δa δb:DE}{pos p p2:Pos}
def WPO(Xw:Nat→Hp→Prop)(F H:Hp)(m:M (Option Int))(Q:Option Int→Hp→Prop):Prop:=
 match m with
 |none=>False
 |some (.ok b)=>∀H' F',Ext F H F' H'→Q b H'
 |some (.ex n)=>∀F' H',Ext F H F' H'→Xw n H'
theorem WPO.mono{Xw:Nat→Hp→Prop}{F H:Hp}{m:M (Option Int)}{Q Q':Option Int→Hp→Prop}(h:WPO Xw F H m Q)(k:∀v H',Q v H'→Q' v H'):WPO Xw F H m Q':=by
 match m,h with
 |none,h=>exact h
 |some (.ok d),h=>exact fun H2 F2 e2=>k _ _ (h H2 F2 e2)
 |some (.ex n),h=>exact h
end
section
variable{prog:Program}{w:World}{A:Around}{E:Value→Shared→Prop}{s:Shared}
end
section
variable{X:Cx}{Xw:Nat→Hp→Prop}{a b e:Expr}{δ δa δb:DE}{pos p p2:Pos}
end
def Jd(x:Str):It:=⟨fun i _=>i<x.cps.size,fun i H v H'=>H'=H∧∃c,x.cps[i]? =some c∧v= .str ⟨#[c]⟩,fun i _=>x.cps.size≤i⟩
theorem zv{P:Program}{w:World}{K:W.Frag}{tg:Expr}(it:Addr)(x:Str)(t:Tok):Turn P w K tg (Jd x) [it] it (fun i h=>i≤x.cps.size∧h.IsStrIter it "str_ascii_iterator" x t i) where
 mem:=by simp
 obj:=fun i h st b hb=>by
  have e:b=it:=by simpa using hb
  subst e
  obtain⟨_,o,e,c,d⟩:=st
  exact⟨o,e,fun v z=>by rw[d] at z;cases z⟩
 keep:=fun i h h' st k=>⟨st.1,let ⟨o,e,r⟩:=st.2;⟨o,k it (by simp) o e,r⟩⟩
 item:=by
  intro X hP hw hK hc i pins s σ H E I hf st hg
  subst hP hw hK
  obtain⟨f0,f1,f2,f3,f4,f5⟩:=hf it (by simp)
  have hi:i<x.cps.size:=hg
  refine(Walks.strAscii (prog:=X.prog) (w:=X.w) (I.ok.hd hc) it x t).item i s _ _ hi st.2 fun v h' tk hv o5 kk=>?_
  obtain⟨c,u,J0,rfl⟩:=hv
  have I1:Inv X pins σ H {s with heap:=h',toks:=tk}:=I.turned (fun b o hb e=>kk b o (by simpa using hb) e) f0 f1 f3 f4 f5
  obtain⟨o,e,cc,dd⟩:=id o5
  exact⟨_,rfl,qb (s:={s with heap:=h',toks:=tk}) e cc dd (by decide) ⟨.str ⟨#[c]⟩,H,I1,⟨u,rfl⟩,⟨rfl,c,J0,rfl⟩,⟨hi,o5⟩,fun b hb=>(hf b hb).1⟩⟩
 done:=by
  intro X hP hw hK hc i pins s σ H E I hf st hg
  subst hP hw hK
  obtain⟨f0,f1,f2,f3,f4,f5⟩:=hf it (by simp)
  have hi:i=x.cps.size:=Nat.le_antisymm st.1 hg
  subst hi
  exact(Walks.strAscii (prog:=X.prog) (w:=X.w) (I.ok.hd hc) it x t).done s _ _ st.2 fun h' tk kk=>⟨rfl,I.turned (fun b o hb e=>kk b o (by simpa using hb) e) f0 f1 f3 f4 f5⟩
 self:=fun _ _ _ _ _ st h=>wpAny_pyIter_striter_ascii st.2 h
theorem zw{P:Program}{w:World}{K:W.Frag}{tg:Expr}(it:Addr)(x:Str)(t:Tok):Turn P w K tg (Jd x) [it] it (fun i h=>i≤x.cps.size∧h.IsStrIter it "str_iterator" x t i) where
 mem:=by simp
 obj:=fun i h st b hb=>by
  have e:b=it:=by simpa using hb
  subst e
  obtain⟨_,o,e,c,d⟩:=st
  exact⟨o,e,fun v z=>by rw[d] at z;cases z⟩
 keep:=fun i h h' st k=>⟨st.1,let ⟨o,e,r⟩:=st.2;⟨o,k it (by simp) o e,r⟩⟩
 item:=by
  intro X hP hw hK hc i pins s σ H E I hf st hg
  subst hP hw hK
  obtain⟨f0,f1,f2,f3,f4,f5⟩:=hf it (by simp)
  have hi:i<x.cps.size:=hg
  refine(Walks.strWide (prog:=X.prog) (w:=X.w) (I.ok.hd hc) it x t).item i s _ _ hi st.2 fun v h' tk hv o5 kk=>?_
  obtain⟨c,u,J0,rfl⟩:=hv
  have I1:Inv X pins σ H {s with heap:=h',toks:=tk}:=I.turned (fun b o hb e=>kk b o (by simpa using hb) e) f0 f1 f3 f4 f5
  obtain⟨o,e,cc,dd⟩:=id o5
  exact⟨_,rfl,qb (s:={s with heap:=h',toks:=tk}) e cc dd (by decide) ⟨.str ⟨#[c]⟩,H,I1,⟨u,rfl⟩,⟨rfl,c,J0,rfl⟩,⟨hi,o5⟩,fun b hb=>(hf b hb).1⟩⟩
 done:=by
  intro X hP hw hK hc i pins s σ H E I hf st hg
  subst hP hw hK
  obtain⟨f0,f1,f2,f3,f4,f5⟩:=hf it (by simp)
  have hi:i=x.cps.size:=Nat.le_antisymm st.1 hg
  subst hi
  exact(Walks.strWide (prog:=X.prog) (w:=X.w) (I.ok.hd hc) it x t).done s _ _ st.2 fun h' tk kk=>⟨rfl,I.turned (fun b o hb e=>kk b o (by simpa using hb) e) f0 f1 f3 f4 f5⟩
 self:=fun _ _ _ _ _ st h=>wpAny_pyIter_striter_wide st.2 h
section
variable{X:Cx}{Xw:Nat→Hp→Prop}{tg a b e l o:Expr}{δ δa δb δo:DE}{δs:DA}{pos p p2 apos bj:Pos}
def KA(tl:TE):TI:=fun σ H R=>tl σ H fun x H1=>∃z,x= .str z∧R (Jd z) H1
theorem Gk{tl:TE}(hl:PE X l tl):PI X tg l (KA tl):=by
 intro pins s σ H R I h
 refine cg (hl pins s σ H _ I h) fun v s1 ⟨x,H1,I1,r1,q1⟩=>?_
 obtain⟨z,e,q⟩:=q1
 subst e
 obtain⟨t,rfl⟩:=r1
 have fp:∀b∈[s1.heap.objs.size],s8 X pins H1 b:=fun b hb=>by
  have e:b=s1.heap.objs.size:=by simpa using hb
  subst e
  exact I1.fpOk (Nat.le_refl _) (I1.hok.fresh (Nat.le_refl _))
 cases ha:z.cps.all (· <128)
 ·exact wpAny_pyIter_wide ha ⟨s1.heap.objs.size,[s1.heap.objs.size],_,_,H1,rfl,I1.kept (t':=s1.toks) fun b o e=>Heap.get?_push_of_some _ e,zw _ z t,⟨Nat.zero_le _,_,Heap.get?_push_size _ rfl,rfl,rfl⟩,fp,q⟩
 ·exact wpAny_pyIter_ascii ha ⟨s1.heap.objs.size,[s1.heap.objs.size],_,_,H1,rfl,I1.kept (t':=s1.toks) fun b o e=>Heap.get?_push_of_some _ e,zv _ z t,⟨Nat.zero_le _,_,Heap.get?_push_size _ rfl,rfl,rfl⟩,fp,q⟩
def signs(x:Str):List D:=x.cps.toList.map fun c=>D.str ⟨#[c]⟩
def GG:D→M (List D)
 | .str x=>M.ret (signs x)
 |_=>M.stuck
theorem CV{K:W.Frag}{F:Hp}(x:Str):ItD K F (Jd x) (signs x):=fun F' H' i s1 s2=>by
 refine⟨fun d e=>?_,fun hl=>show x.cps.size≤i by simpa[signs] using hl⟩
 unfold signs at e
 rw[List.getElem?_map] at e
 cases q:x.cps.toList[i]? with
 |none=>rw[q] at e;cases e
 |some c=>
  rw[q] at e
  cases e
  have hi:i<x.cps.size:=by
   have:=(List.getElem?_eq_some_iff.mp q).1
   simpa using this
  refine⟨hi,fun v H'' y=>?_⟩
  obtain⟨e2,c',Cb,rfl⟩:=y
  subst e2
  have:c'=c:=by
   have q':x.cps[i]? =some c:=by simpa using q
   rw[q'] at Cb
   exact(Option.some.inj Cb).symm
  subst this
  exact⟨F',Ext.refl s2,rfl,by show 1≤lim;decide⟩
theorem Ds(h:PD X Xw l δ):yi X Xw tg l (fun ρ=>δ ρ>>=GG):=PI.weak (Gk h) fun σ H R ⟨F,ρ,s,w⟩=>by
 refine⟨F,ρ,s,WP.mono (WPI.bind w) fun v H1 ⟨F1,d,e1,q1,w1⟩=>?_⟩
 cases d with
 |str z=>exact⟨z,q1.1,w1 _ _ _ (Ext.refl e1.fh) (CV z)⟩
 |_=>exact w1.elim
end
end L3
namespace L3
open PySem PySem.Spec L2 SeqAt HT
open PyProof.Rows hiding St
open PySem.W (Frag Looks InstAt findIn mroIn)
open PySem.Builtin PySem.Builtin.ObjectAttr PySem.Builtin.Getset_descriptor
section
variable{prog:Program}{w:World}{A:Around}{E:Value→Shared→Prop}{h:Heap}{g:Array GenState}{d:Drawn}{t:Nat}{os:OsState}{x D:Addr}{ox:Obj}{K:Frag}
structure ExcC (K:Frag) (D:Addr):Prop where
 ga:findIn K (.ref D) "__getattribute__"=some (some (.builtin "BaseException.__getattribute__"))
 gt:findIn K (.ref D) "__getattr__"=some none
 ca:findIn K (.ref D) "__class__"=some (some (.builtin "object.__class__"))
 mo:mroIn K D (.type "object")=some true
 mb:mroIn K D (.type "BaseException")=some true
 cl:(PySem.W.clsIn K D).isSome=true
end
section
variable{X:Cx}{Xw:Nat→Hp→Prop}{e e2:Expr}{δs:DA}{pos p:Pos}
end
end L3
namespace L3
open PySem PySem.Spec L2 SeqAt HT
open PyProof.Rows hiding St
open PySem.W (Frag Looks findIn mroIn)
section
variable{X:Cx}{pins pn:List (Addr×Obj)}{σ:St}{H:Hp}{s:Shared}{E:Value→Shared→Prop}{ea:Addr}
end
section
variable{P:Program}{w:World}{K:W.Frag}{mg:Str→Option Value}{base:Heap}{N:List Str}{qual:Str}{scope:Scope}{f:Addr}{cd:Value}{A:Around}{outer:List Env}{s₀:Shared}{H₀:Hp}{E:XK}{cv:Nat→Value}
end
end L3
namespace L3
open PySem PySem.Spec L2 SeqAt HT
open PyProof.Rows hiding St
structure RoomH (k:Nat) (A:Around):Prop where
 dp:A.depth+3*k+5<recursionLimit
 un:A.units+16*k+200<cLine
theorem RoomH.deeper{k:Nat}{A:Around}(r:RoomH (k+1) A)(env:Env):RoomH k (A.deeper env):=
 ⟨by have:=r.dp;show A.depth+1+3*k+5<_;omega,by have:=r.un;show A.units+3+16*k+200<_;omega⟩
theorem RoomH.units{k:Nat}{A:Around}(r:RoomH k A):A.units+64<cLine:=by have:=r.un;omega
structure FnOkH (P:Program) (w:World) (K:W.Frag) (mg:Str→Option Value) (base:Heap) (k:Nat) (f:Addr) (fd:FuncData) (ps:List Str) (sp:Sp):Prop where
 len:∀vs H Q E,sp vs H Q E→vs.length=ps.length
 run:∀(A:Around) (outer:List Env) (s:Shared) (H:Hp) (args:Args) (us:List Value) (vs:List V) (Q:VK) (E:XK),RoomH k A→Env0 P w K mg base A outer s H→BindsTo s fd args (ps.zip us)→Vals vs us→sp vs H Q E→
  codeAny (model P w) A (.call (.ref f) args) (CR JF outer P w H s Q E) s
section
variable{P:Program}{w:World}{K:W.Frag}{mg:Str→Option Value}{base:Heap}{cv:Nat→Value}
end
section
variable{X:Cx}{Xw:Nat→Hp→Prop}{cv:Nat→Value}{k m:Nat}{f:Addr}{fd:FuncData}{ps:List Str}{g:List D→M D}{x:Str}{p pos:Pos}{e:Expr}{es:List Expr}{δs:DA}
end
def xa(N:List Str)(osc scope:Scope)(tn:List Str):Bool:=
 decide (scope.kind= .function)&&scope.names.all (fun y=>decide (y.2≠ .cell))&&scope.names.all (fun y=>decide (y.2= .local→scope.names.lookup y.1=some .local))&&
 scope.names.all (fun y=>decide (y.2= .free→(osc.names.lookup y.1=some .cell∨osc.names.lookup y.1=some .free)))&&
 ((di tn N).zip N).all (fun p=>decide (scope.names.lookup p.1=none∨(p.1=p.2∧scope.names.lookup p.1=some .free)))
theorem b7{X:Cx}{N:List Str}{osc scope:Scope}{tn:List Str}(hN:X.N=N)(ho:X.env.scope=osc)(h:xa N osc scope tn=true):CompSc X scope tn:=by
 unfold xa at h
 simp only[Bool.and_eq_true,List.all_eq_true,decide_eq_true_eq] at h
 obtain⟨⟨⟨⟨h1,h2⟩,h3⟩,h4⟩,h5⟩:=h
 refine⟨h1,h2,h3,fun y hy hf=>?_,?_⟩
 ·have:=h4 y hy hf
  rw[←ho] at this
  exact this
 ·rw[hN]
  exact h5
theorem dI{X:Cx}{x:Str}{px:Pos}{σ:St}(hN:X.N.Nodup)(h0:X.N[0]? =some x)(Fd:X.env.scope.names.lookup x=some .local):zE X (.Name x px) 0 σ:=fun pins s σ' F H d ts v u I fh hd rv q e=>by
 have e:M.ret [d]=M.ret ts:=e
 have e:=fE e
 subst e
 refine wpAny_assign_Name (u4 I hN h0 (.inl Fd) rv (fun s' I'=>⟨[v],?_, .cons q .nil⟩) (.inr Fd))
 have hl:0<σ'.length:=by rw[I.len];exact(List.getElem?_eq_some_iff.mp h0).1
 have:σ'.set 0 (some v)=[v].map some++σ:=by
  cases σ' with
  |nil=>simp at hl
  |cons a r=>
   have hd:r=σ:=by simpa using hd
   subst hd
   rfl
 rw[←this]
 exact I'
theorem bL{P:Program}{w:World}{cv:Nat→Value}{X:Cx}:Passes (ph P w cv) X (EX cv fun _ _=>False):=fun _ _ _ _ _ _ _ ⟨_,_,_,_,_,_,_,_,_,_,_,_,_,_,z⟩=>z.elim
def bh(K:W.Frag)(mg:Str→Option Value)(x:Str)(st:Stmt)(f:Addr):Prop:=mg x=some (.ref f)∧∃fd,Fun K x x st f fd
def ah(P:Program)(w:World)(K:W.Frag)(mg:Str→Option Value)(base:Heap)(cv:Nat→Value)(k:Nat)(x:Str)(m:Nat)(g:List D→M D):Prop:=
 ∃f fd ps,mg x=some (.ref f)∧PySem.W.keepIn K (.ref f)=true∧Binds K fd ps []∧FnOk P w K mg base (ph P w cv) k f fd ps (GZ K cv m g)
section
variable{X:Cx}{Xw:Nat→Hp→Prop}{cv:Nat→Value}{k m:Nat}{g:List D→M D}{x:Str}{p pos:Pos}{e:Expr}{es:List Expr}{δs:DA}
def ak(m:Nat)(g:List D→M D)(δs:DA):DE:=fun ρ=>δs ρ>>=fun ds=>if ds.length=m then g ds else M.stuck
theorem aK(F:ah X.prog X.w X.K X.mg X.base cv k x m g)(hr:Room k X.A)(hg:Gl X x)(hx:Passes (ph X.prog X.w cv) X (EX cv Xw))
 (ha:mQ X Xw (e::es) δs)(hl:(e::es).length=m)(rp:(x==("__debug__":Str))=false:=by decide)(he:starEach (e::es) X.env=(false,eval e X.env)::starEach es X.env:=by rfl)(nO:(backTo pos (starEach es X.env)).any (·.1)=false:=by rfl):
 PD X Xw (.Call (.Name x p) (e::es) [] pos) (ak m g δs):=by
 obtain⟨f,fd,ps,h1,h2,h3,h4⟩:=F
 exact Dm h4 hr hg h1 h2 h3 hx ha hl rp he nO
end
theorem aw{P:Program}{w:World}{K:W.Frag}{mg:Str→Option Value}{base:Heap}{cv:Nat→Value}{k:Nat}{x:Str}{st:Stmt}{f:Addr}{N ps:List Str}{τ:DS}(T:bh K mg x st f)(S:FnScope N ps (ag st))
 (LG:∀(kV doc pm:Value) (an:Option Addr) (bQ ct:Value) (us:List Value),us.length=ps.length→bindArgs (PySem.W.fnOf x x (dY st) (bx st) (ag st) .none kV doc pm an bQ ct) ⟨us,[]⟩=pure (ps.zip us))
 (nL:∀(bQ:Value) (A:Around) (outer:List Env) (s:Shared) (H:Hp) (E:XK),Room k (A.deeper (envOfC x (ag st) s.heap.objs.size f bQ))→
  PSDs (fk (ph P w cv) P w K mg base N x (ag st) f bQ A outer s H E) (fun n H'=>E (cv n) none H') (bx st) τ):ah P w K mg base cv (k+1) x ps.length (bU N.length τ):=by
 obtain⟨h1,fd,Fn⟩:=T
 exact⟨f,fd,ps,h1,Fn.kp,Fn.binds LG,Hq Fn S nL⟩
section
variable{X:Cx}{Xw:Nat→Hp→Prop}{a e:Expr}{δ:DE}{pos:Pos}
end
section
variable{X:Cx}{Xw:Nat→Hp→Prop}{pos:Pos}
theorem Dq{x z:Str}(hg:Gl X x)(h:∃t,X.mg x=some (.str z t))(hz:z.length≤lim)(rp:(x==("__debug__":Str))=false:=by decide):PD X Xw (.Name x pos) (dC (.str z)):=by
 obtain⟨t,h⟩:=h
 exact xN (v:= .str z) hg h ⟨t,rfl⟩ (fun _=>⟨rfl,hz⟩) rp
theorem xO{x:Str}{i:Int}(hg:Gl X x)(h:∃t,X.mg x=some (.int i t))(rp:(x==("__debug__":Str))=false:=by decide):PD X Xw (.Name x pos) (dC (.int i)):=by
 obtain⟨t,h⟩:=h
 exact xN (v:= .int i) hg h ⟨t,rfl⟩ (fun _=>rfl) rp
end
def DM(sc osc:Scope):Scope:={sc with names:=sc.names.map fun(n,k)=>if (k== .free&&osc.kind== .function&&osc.names.lookup n==some .cell) then(n, .cell) else(n,k)}
structure Box (p:Prop):Prop where
 out:p
section
variable{X:Cx}{Xw:Nat→Hp→Prop}{a:Expr}{δa:DE}{pos:Pos}
theorem mY{st:Stmt}{rest:List Stmt}{τ τ':DS}(h1:Box (jR X Xw st τ))(h2:Box (PSDs X Xw rest τ')):Box (PSDs X Xw (st::rest) (av τ τ')):=⟨af h1.out h2.out⟩
theorem EL{st:Stmt}{τ:DS}(h1:Box (jR X Xw st τ)):Box (PSDs X Xw [st] τ):=⟨aq h1.out⟩
end
theorem Jc{l:PySem.W.OpenLaw}{n k:Nat}{q:Program}{loose:List Str}{XP:(Str→Option Value)→Heap→Prop}{YP:World→Heap→Prop}{d:DefRec}{K:Params→W.Frag}{x:Str}{g:List D→M D}
 (hn:l.most=some n)(Jn:n≤lim)(HB:d.params.defaults=[])(hr:Room k callerA)
 (hY:∀(w:World) (h:Heap),YP w h→(K w.params).In h)(hg:∀ns:List Int,ns.length≤n→g [.scr ns]=M.ret (.bl true))
 (F:∀(w:World) (mg:Str→Option Value) (fa:Addr) (h:Heap),(K w.params).In h→h.Ns mainGlobals mg→mg d.name=some (.ref fa)→
  ∃(cv:Nat→Value) (fd:FuncData),(∀(s:Shared) (u:Value),BindsTo s fd ⟨[u],[]⟩ [(x,u)])∧
   ∀base:Heap,(K w.params).In base→base.Ns mainGlobals mg→FnOk l.prog w (K w.params) mg base (ph l.prog w cv) k fa fd [x] (GZ (K w.params) cv 1 g)):
 PySem.W.WalkO q loose XP YP l.row.toRowW d [] (fun f vs=>PySem.call f vs):=by
 refine Att.attach_call hn HB fun w s₀ s₁ mg mb fa o pm cd doc a vs ns G Y ho hd vp Ff Ar hints hlen M9=>?_
 have KX:=hY w _ Y
 obtain⟨cv,fd,hb,hF⟩:=F w mg fa _ KX G.T.g Ff
 refine t6 KX G.T.g G.T.b G.T.builtins G.T.nolimit M9 Ar hints (Nat.le_trans hlen (Nat.le_trans Jn (Nat.le_of_lt e9))) hr hF hb (fun H hO hS=>?_) fun H e s' z=>?_
 ·refine⟨H,[.scr ns],fun _ _ e=>e,⟨_,_,rfl,⟨a,rfl,hS,Nat.le_trans hlen Jn⟩,rfl⟩,rfl,?_⟩
  rw[hg ns hlen]
  exact fun v H' F' e q=>q
 ·obtain⟨_,_,_,_,_,_,_,_,_,_,_,_,_,_,y⟩:=z
theorem nG{α β:Type}{f g:α→Option β}:∀{l:List α},(∀x∈l,f x=g x)→l.filterMap f=l.filterMap g
 |[],_=>rfl
 |a::l,h=>by rw[List.filterMap_cons,List.filterMap_cons,h a (List.mem_cons_self ..),nG fun x hx=>h x (List.mem_cons_of_mem _ hx)]
section
variable{prog:Program}{w:World}{A:Around}{E:Value→Shared→Prop}{s:Shared}
end
section
variable{X:Cx}{Xw:Nat→Hp→Prop}{e ME:Expr}{te ts:TE}{δ δs:DE}{pos p2:Pos}
variable{o:Expr}{δo:DE}{δl:DA}{apos bj:Pos}
end
namespace RV
end RV
section
variable{prog:Program}{w:World}{A:Around}{E:Value→Shared→Prop}{s:Shared}
end
section
variable{X:Cx}{Xw:Nat→Hp→Prop}{tg e:Expr}{es:List Expr}{δ δi:DE}{δs:DA}{pos p:Pos}
end
end L3
namespace L3
open PySem PySem.Spec L2 SeqAt HT
open PyProof.Rows hiding St
def rF:D→Option Key
 | .int i=>some (.inl i)
 | .str x=>some (.inr x)
 |_=>none
def rG:List D→Option (List Key)
 |[]=>some []
 |d::ds=>match rF d,rG ds with
  |some k,some ks=>some (k::ks)
  |_,_=>none
def d8:D→Option (List Key)
 | .tup ds=>rG ds
 |_=>none
theorem j5{K:W.Frag}{F:Hp}{d:D}{v:V}{k:Key}(e:rF d=some k)(h:Den K F d v):v=kV k:=by
 cases d<;>first | cases e | skip
 ·exact h
 ·exact h.1
theorem hX{K:W.Frag}{F:Hp}:∀{ds:List D}{vs:List V}{ks:List Key},rG ds=some ks→DenL K F ds vs→vs=ks.map kV
 |[],_,_,e,h=>by cases e;exact h
 |d::ds,_,_,e,⟨v,r,h1,h2,h3⟩=>by
  unfold rG at e
  split at e
  ·rename_i k ks e1 e2
   cases e
   subst h1
   rw[List.map_cons,j5 e1 h2,hX e2 h3]
  ·cases e
section
variable{κ:Type}[DecidableEq κ]
def eL:List κ→List D→κ→Option D
 |k'::ks,d::ds,k=>if k'=k then some d else eL ks ds k
 |_,_,_=>none
def lr:List κ→List D→κ→D→List D
 |k'::ks,d'::ds,k,d=>(if k'=k then d else d')::lr ks ds k d
 |_,_,_,_=>[]
theorem kI{K:W.Frag}{F:Hp}:∀{ks:List κ}{ds:List D}{vs:List V}(k:κ),DenL K F ds vs→ks.length=ds.length→
 (match eL ks ds k with | some d=>∃v,kJ (ks.zip vs) k=some v∧Den K F d v | none=>kJ (ks.zip vs) k=none)
 |[],[],_,_,_,_=>rfl
 |k'::ks,d::ds,_,k,⟨v,r,h1,h2,h3⟩,hl=>by
  subst h1
  unfold eL
  rw[List.zip_cons_cons]
  by_cases e:k'=k
  ·rw[if_pos e,kL (p:=(k',v)) e]
   exact⟨v,rfl,h2⟩
  ·rw[if_neg e,kK (p:=(k',v)) e]
   exact kI k h3 (by simpa using hl)
 |[],_::_,_,_,_,hl=>by simp at hl
 |_::_,[],_,_,_,hl=>by simp at hl
theorem iP{K:W.Frag}{F:Hp}{ks:List κ}{ds:List D}{vs:List V}(k:κ)(h:DenL K F ds vs)(hl:ks.length=ds.length):(kJ (ks.zip vs) k).isSome=(eL ks ds k).isSome:=by
 have:=kI k h hl
 split at this
 ·rename_i d e
  obtain⟨v,e1,_⟩:=this
  rw[e1,e];rfl
 ·rename_i e
  rw[this,e]
  rfl
theorem uN{K:W.Frag}{F:Hp}{d:D}{v:V}(hd:Den K F d v):∀{ks:List κ}{ds:List D}{vs:List V}(k:κ),DenL K F ds vs→ks.length=ds.length→
 ∃ws,(ks.zip vs).map (fun kv=>if kv.1=k then(kv.1,v) else kv)=ks.zip ws∧DenL K F (lr ks ds k d) ws
 |[],[],_,_,h,_=>⟨[],rfl,rfl⟩
 |k'::ks,d'::ds,_,k,⟨v',r,h1,h2,h3⟩,hl=>by
  subst h1
  obtain⟨ws,e1,e2⟩:=uN hd k h3 (by simpa using hl)
  by_cases e:k'=k
  ·refine⟨v::ws,?_,?_⟩
   ·rw[List.zip_cons_cons,List.map_cons,e1,if_pos e];rfl
   ·unfold lr;rw[if_pos e];exact .cons hd e2
  ·refine⟨v'::ws,?_,?_⟩
   ·rw[List.zip_cons_cons,List.map_cons,e1,if_neg e];rfl
   ·unfold lr;rw[if_neg e];exact .cons h2 e2
 |[],_::_,_,_,_,hl=>by simp at hl
 |_::_,[],_,_,_,hl=>by simp at hl
theorem ix:∀(ks:List κ) (ds:List D) (k:κ) (d:D),ks.length=ds.length→(lr ks ds k d).length=ds.length
 |[],[],_,_,_=>rfl
 |_::ks,_::ds,k,d,h=>by unfold lr;rw[List.length_cons,List.length_cons,ix ks ds k d (by simpa using h)]
 |[],_::_,_,_,h=>by simp at h
 |_::_,[],_,_,h=>by simp at h
def cZ(ks:List κ)(ds:List D)(k:κ):List κ:=if (eL ks ds k).isSome then ks else ks++[k]
def ck(ks:List κ)(ds:List D)(k:κ)(d:D):List D:=if (eL ks ds k).isSome then lr ks ds k d else ds++[d]
theorem si{K:W.Frag}{F:Hp}{d:D}{v:V}(hd:Den K F d v){ks:List κ}{ds:List D}{vs:List V}(k:κ)(h:DenL K F ds vs)(hl:ks.length=ds.length):
 ∃ws,putK (ks.zip vs) k v=(cZ ks ds k).zip ws∧DenL K F (ck ks ds k d) ws∧(cZ ks ds k).length=(ck ks ds k d).length:=by
 have hs:=iP (K:=K) (F:=F) k h hl
 unfold putK cZ ck
 have ha:((ks.zip vs).any fun kv=>decide (kv.1=k))=(kJ (ks.zip vs) k).isSome:=o9 ..
 rw[ha,hs]
 cases e:(eL ks ds k).isSome with
 |true=>
  rw[if_pos rfl,if_pos rfl,if_pos rfl]
  obtain⟨ws,e1,e2⟩:=uN hd k h hl
  exact⟨ws,e1,e2,by rw[ix ks ds k d hl];exact hl⟩
 |false=>
  rw[if_neg Bool.false_ne_true,if_neg Bool.false_ne_true,if_neg Bool.false_ne_true]
  refine⟨vs++[v],?_,h.append (.cons hd .nil),by simp[hl]⟩
  rw[List.zip_append (by rw[hl];exact h.len)]
  rfl
end
theorem yh{κ:Type}{K:W.Frag}{F:Hp}{ks:List κ}{ds:List D}{vs:List V}(h:DenL K F ds vs)(hl:ks.length=ds.length):(ks.zip vs).length=ds.length:=by
 rw[List.length_zip,hl,←h.len];omega
def o4(ρ:aY)(i:Nat):Option D:=match ρ[i]? with
 |some (some (.fz d))=>some d
 |some (some (.ow c))=>some c.d
 |_=>none
theorem BP{K:W.Frag}{F H:Hp}{σ:St}{ρ:aY}{i:Nat}{ks:List (List Key)}{ds:List D}(s:StE K F H σ ρ)(e:o4 ρ i=some (.dct ks ds)):
 ∃a vs,σ[i]? =some (some (.ref a))∧Rd H a (.dT (ks.zip vs))∧DenL K F ds vs∧ks.length=ds.length∧ds.length≤lim:=by
 unfold o4 at e
 split at e
 ·rename_i d e1
  cases e
  obtain⟨v,h1,a,ob,vs,rfl,h2,h3,h4,h5⟩:=s.den i _ e1
  exact⟨a,vs,h1, .inr ⟨ob,s.fh _ _ h2⟩,h3,h4,h5⟩
 ·rename_i c e1
  cases c<;>cases e
  obtain⟨v,h1,a,o,rfl,h2,_,vs,rfl,h3,h4,h5⟩:=s.den i _ e1
  exact⟨a,vs,h1, .inl h2,h3,h4,h5⟩
 ·cases e
theorem BO{K:W.Frag}{F H:Hp}{σ:St}{ρ:aY}{i:Nat}{ks:List Key}{ds:List D}(s:StE K F H σ ρ)(e:o4 ρ i=some (.dci ks ds)):
 ∃a vs,σ[i]? =some (some (.ref a))∧Rd H a (.dK (ks.zip vs))∧DenL K F ds vs∧ks.length=ds.length∧ds.length≤lim:=by
 unfold o4 at e
 split at e
 ·rename_i d e1
  cases e
  obtain⟨v,h1,a,ob,vs,rfl,h2,h3,h4,h5⟩:=s.den i _ e1
  exact⟨a,vs,h1, .inr ⟨ob,s.fh _ _ h2⟩,h3,h4,h5⟩
 ·rename_i c e1
  cases c<;>cases e
  obtain⟨v,h1,a,o,rfl,h2,_,vs,rfl,h3,h4,h5⟩:=s.den i _ e1
  exact⟨a,vs,h1, .inl h2,h3,h4,h5⟩
 ·cases e
def B8:D→D→Option (Option D)
 | .dct ks ds,k=>(d8 k).map (eL ks ds)
 | .dci ks ds,k=>(rF k).map (eL ks ds)
 |_,_=>none
theorem wY{K:W.Frag}{F H:Hp}{σ:St}{ρ:aY}{i:Nat}{d k:D}{y:V}{o:Option D}(s:StE K F H σ ρ)(hi:o4 ρ i=some d)(hk:Den K F k y)(e:B8 d k=some o):
 ∃a ov,σ[i]? =some (some (.ref a))∧pj H a y ov∧ov.isSome=o.isSome∧∀d',o=some d'→∃v,ov=some v∧Den K F d' v:=by
 unfold B8 at e
 split at e
 ·rename_i ks ds
  cases q:d8 k with
  |none=>rw[q] at e;cases e
  |some kk=>
   rw[q] at e
   cases e
   obtain⟨a,vs,h1,h2,h3,h4,h5⟩:=BP s hi
   unfold d8 at q
   split at q
   ·rename_i es
    obtain⟨b,ws,rfl,k2,k3,_⟩:=hk
    have e1:=hX q k3
    subst e1
    refine⟨a,_,h1, .inr ⟨_,kk,b,h2,rfl,s.fh _ _ k2,rfl⟩,iP kk h3 h4,fun d' qc=>?_⟩
    have:=kI (K:=K) (F:=F) kk h3 h4
    rw[qc] at this
    exact this
   ·cases q
 ·rename_i ks ds
  cases q:rF k with
  |none=>rw[q] at e;cases e
  |some kk=>
   rw[q] at e
   cases e
   obtain⟨a,vs,h1,h2,h3,h4,h5⟩:=BO s hi
   have e1:=j5 q hk
   subst e1
   refine⟨a,_,h1, .inl ⟨_,kk,h2,rfl,rfl⟩,iP kk h3 h4,fun d' qc=>?_⟩
   have:=kI (K:=K) (F:=F) kk h3 h4
   rw[qc] at this
   exact this
 ·cases e
section
variable{X:Cx}{Xw:Nat→Hp→Prop}{a b:Expr}{δa δb:DE}{pos:Pos}
theorem Ez(ha:PD X Xw a δa)(hb:PD X Xw b δb):PD X Xw (.Compare a [.Gt] [b] pos) (d2 Ei δa δb):=oK Ey (oB fun _ _ _=>rfl) ha hb
end
section
variable{X:Cx}{Xw:Nat→Hp→Prop}{a e:Expr}{δ δk δv:DE}{pos p pos' pJ apos bj:Pos}{x:Str}{i:Nat}
def Hf(neg:Bool)(i:Nat)(δ:DE):DE:=fun ρ=>δ ρ>>=fun k=>match o4 ρ i with
 |some d=>match B8 d k with
  |some o=>M.ret (.bl (if neg then !o.isSome else o.isSome))
  |none=>M.stuck
 |none=>M.stuck
theorem Fp{neg:Bool}{σ:St}{H:Hp}{Q:VK}(h:tD X.K Xw (Hf neg i δ) σ H Q):(fun σ H Q=>tD X.K Xw δ σ H fun y H1=>o6 i σ H1 fun x H2=>∃a o,x= .ref a∧pj H2 a y o∧Q (.bl (if neg then !o.isSome else o.isSome)) H2) σ H Q:=by
 obtain⟨F,ρ,s,w⟩:=h
 refine⟨F,ρ,s,WP.mono (WP.bind w) fun y H1 ⟨F1,k,e1,q1,w1⟩=>?_⟩
 have s1:=s.ext e1
 cases hi:o4 ρ i with
 |none=>rw[hi] at w1;exact w1.elim
 |some d=>
  rw[hi] at w1
  have w1:WP X.K Xw F1 H1 (match B8 d k with | some o=>M.ret (.bl (if neg then !o.isSome else o.isSome)) | none=>M.stuck) Q:=w1
  cases he:B8 d k with
  |none=>rw[he] at w1;exact w1.elim
  |some o=>
   rw[he] at w1
   obtain⟨a,ov,h1,h2,h3,_⟩:=wY s1 hi q1 he
   refine⟨.ref a,h1,a,ov,rfl,h2,?_⟩
   rw[h3]
   exact WP.now w1 e1.fh rfl
theorem KU(hu:X.A.units+64<cLine)(ha:PD X Xw a δ)(hv:PE X (.Name x p) (o6 i))(hm:behindInMarks .In (.Name x p)=false:=by rfl):PD X Xw (.Compare a [.In] [.Name x p] pos) (Hf false i δ):=
 PE.weak (Ga (FW (by omega) ha hv) hm) fun σ H Q h=>Fp (neg:=false) h
def uP(i:Nat):DS:=fun ρ=>M.ret (.nx (ρ.set i (some (.ow (.dct [] [])))))
theorem kx(hN:X.N.Nodup)(hi:X.N[i]? =some x)(hx:Loc X.env.scope x)(hf:X.fn x=true∨X.env.scope.names.lookup x=some .local:=by first | exact .inl rfl | exact .inr rfl):
 jR X Xw (.Assign [.Name x pos'] (.Dict [] [] pJ) pos) (uP i):=fun F₀ H₀=>PS.weak (sf Bm (bE hN hi hx hf) rfl) fun D σ H ⟨F,ρ,s,w⟩=>fun q hq=>
 w _ F _ (s.setNew (c₀:= .dct [] []) hq ⟨[],rfl,rfl,rfl,Nat.zero_le _⟩)
def je:C→D→D→Option C
 | .dct ks ds,k,d=>match d8 k with
   |some kk=>if ds.length<lim then some (.dct (cZ ks ds kk) (ck ks ds kk d)) else none
   |none=>none
 | .dci ks ds,k,d=>match rF k with
   |some kk=>if ds.length<lim then some (.dci (cZ ks ds kk) (ck ks ds kk d)) else none
   |none=>none
 |_,_,_=>none
def uB(ρ:aY)(i:Nat):Option C:=match ρ[i]? with
 |some (some (.ow c))=>some c
 |_=>none
theorem qu{ρ:aY}{i:Nat}{c:C}(h:uB ρ i=some c):ρ[i]? =some (some (.ow c)):=by
 unfold uB at h
 split at h
 ·rename_i c' e
  cases h
  exact e
 ·cases h
def fG(i:Nat)(δk δv:DE):DS:=fun ρ=>match uB ρ i with
 |some c=>δv ρ>>=fun v=>δk ρ>>=fun k=>match je c k v with
  |some c'=>M.ret (.nx (ρ.set i (some (.ow c'))))
  |none=>M.stuck
 |none=>M.stuck
theorem qG{κ:Type}[DecidableEq κ]{ks:List κ}{ds:List D}{k:κ}{d:D}(hl:ks.length=ds.length)(h:ds.length<lim):(ck ks ds k d).length≤lim:=by
 unfold ck
 split
 ·rw[ix ks ds k d hl];omega
 ·rw[List.length_append];exact h
theorem By{K:W.Frag}{F H:Hp}{c c':C}{k d:D}{y v:V}{o:HO}{b:Addr}(hs:Same F H)(hb:H b=some o)(hc:DenC K F c o)(hk:Den K F k y)(hd:Den K F d v)(e:je c k d=some c'):∃o',DPut H b y v (upd H b o')∧DenC K F c' o':=by
 have HH:=e9
 unfold je at e
 split at e
 ·rename_i ks ds k d
  obtain⟨vs,rfl,h3,h4,h5⟩:=hc
  split at e
  ·rename_i kk q
   split at e
   ·rename_i dO
    cases e
    unfold d8 at q
    split at q
    ·rename_i es
     obtain⟨b2,ws,rfl,k2,k3,_⟩:=hk
     have e1:=hX q k3
     subst e1
     obtain⟨us,e2,e3,e4⟩:=si hd kk h3 h4
     refine⟨_,DPut.t hb (hs _ _ k2) (by rw[yh h3 h4];omega),us,?_,e3,e4,qG h4 dO⟩
     rw[e2]
    ·cases q
   ·cases e
  ·cases e
 ·rename_i ks ds k d
  obtain⟨vs,rfl,h3,h4,h5⟩:=hc
  split at e
  ·rename_i kk q
   split at e
   ·rename_i dO
    cases e
    have e1:=j5 q hk
    subst e1
    obtain⟨us,e2,e3,e4⟩:=si hd kk h3 h4
    refine⟨_,DPut.k hb (by rw[yh h3 h4];omega),us,?_,e3,e4,qG h4 dO⟩
    rw[e2]
   ·cases e
  ·cases e
 ·cases e
theorem ky(hu:X.A.units+64<cLine)(hv:PE X (.Name x p) (o6 i))(hk:PD X Xw a δk)(he:PD X Xw e δv)(hs:swapsWith e (some (.Subscript (.Name x p) a pos')) pos.line X.env=pure false:=by rfl):
 jR X Xw (.Assign [.Subscript (.Name x p) a pos'] e pos) (fG i δk δv):=fun F₀ H₀=>PS.weak (DB (by omega) hv hk he hs) fun D σ H ⟨F,ρ,s,w⟩=>by
 unfold fG at w
 cases ho:uB ρ i with
 |none=>rw[ho] at w;exact w.elim
 |some c=>
  rw[ho] at w
  have hi:=qu ho
  have w:WPS X.K Xw F₀ H₀ (δv ρ>>=fun v=>δk ρ>>=fun k=>match je c k v with | some c'=>M.ret (.nx (ρ.set i (some (.ow c')))) | none=>M.stuck) D:=w
  refine⟨F,ρ,s.st,?_⟩
  rcases(δv ρ).cs with q | ⟨n,q⟩ | ⟨dv,q⟩
  ·rw[q] at w;exact w.elim
  ·rw[q] at w⊢;exact fun F' H' e'=>w F' H' (s.ext.trans e')
  ·rw[q] at w⊢
   intro v H1 F1 e1 hq
   have s1:=s.ext' e1
   obtain⟨u,h1,b,o,rfl,h2,h3,h4⟩:=s1.st.den i _ hi
   have w:WPS X.K Xw F₀ H₀ (δk ρ>>=fun k=>match je c k dv with | some c'=>M.ret (.nx (ρ.set i (some (.ow c')))) | none=>M.stuck) D:=w
   refine⟨.ref b,h1,F1,ρ,s1.st,?_⟩
   rcases(δk ρ).cs with q2 | ⟨n,q2⟩ | ⟨dk,q2⟩
   ·rw[q2] at w;exact w.elim
   ·rw[q2] at w⊢;exact fun F' H' e'=>w F' H' (s1.ext.trans e')
   ·rw[q2] at w⊢
    intro y H2 F2 e2 hy
    have w:WPS X.K Xw F₀ H₀ (match je c dk dv with | some c'=>M.ret (.nx (ρ.set i (some (.ow c')))) | none=>M.stuck) D:=w
    cases hp:je c dk dv with
    |none=>rw[hp] at w;exact w.elim
    |some c'=>
     rw[hp] at w
     have s2:=s1.ext' e2
     obtain⟨u2,k1,b2,o2,Hy,k2,k3,k4⟩:=s2.st.den i _ hi
     rw[h1] at k1
     cases k1
     cases Hy
     obtain⟨o',g,hc⟩:=By s2.st.fh k2 k4 hy (Den.mono e2.ff hq) hp
     exact⟨b,_,rfl,g,w σ F2 _ (s2.chg hi h1 hc)⟩
end
def dX(c:DT)(body:DS):Nat→DS
 |0,_=>M.stuck
 |n+1,ρ=>c ρ>>=fun b=>if b then body ρ>>=fun o=>match o with | .nx ρ'=>dX c body n ρ' | .rt d=>M.ret (.rt d) else M.ret (.nx ρ)
def wz(c:DT)(body:DS):DS:=fun ρ=>dX c body lim ρ
section
variable{X:Cx}{Xw:Nat→Hp→Prop}{τ:DS}{tc:DT}{pos:Pos}
theorem qE{c:Expr}{body:List Stmt}(hp:PassesOwn (model X.prog X.w) X.A X.env X.xe)(hc:mm X Xw c tc)(hb:PSDs X Xw body τ):jR X Xw (.While c body [] pos) (wz tc τ):=fun F₀ H₀=>PS.weak (Bq hp hc hb.ex) fun D σ H ⟨F,ρ,s,w⟩=>by
 refine⟨fun m σ H=>∃F ρ,StOk X.K F₀ H₀ F H σ ρ∧WPS X.K Xw F₀ H₀ (dX tc τ m ρ) D,⟨lim,F,ρ,s,w⟩,?_⟩
 rintro m σ H ⟨F,ρ,s,w⟩
 cases m with
 |zero=>exact w.elim
 |succ m=>
  refine⟨F,ρ,s.st,?_⟩
  unfold dX at w
  match tc ρ,w with
  |none,w=>exact w
  |some (.ex n),w=>exact fun F' H' e'=>w F' H' (s.ext.trans e')
  |some (.ok false),w=>exact fun H' F' e'=>w σ F' H' (s.ext' e')
  |some (.ok true),w=>
   intro H' F' e'
   have w:WPS X.K Xw F₀ H₀ (τ ρ>>=fun o=>match o with | .nx ρ'=>dX tc τ m ρ' | .rt d=>M.ret (.rt d)) D:=w
   refine⟨fun σ' H'=>∃F' ρ',StOk X.K F₀ H₀ F' H' σ' ρ'∧WPS X.K Xw F₀ H₀ (dX tc τ m ρ') D,fun σ' H' h=>⟨m,Nat.lt_succ_self m,h⟩,F₀,H₀,F',ρ,s.ext' e',?_⟩
   match τ ρ,w with
   |none,w=>exact w
   |some (.ok (.nx ρ')),w=>exact fun σ' F' H' s'=>⟨F',ρ',s',w⟩
   |some (.ok (.rt d)),w=>exact w
   |some (.ex n),w=>exact w
end
def j6:List D→Option (List (List Key))
 |[]=>some []
 |d::ds=>match d8 d,j6 ds with
  |some k,some ks=>some (k::ks)
  |_,_=>none
theorem ES:∀{x y:D}{k k':Key}{n:Nat},rF x=some k→rF y=some k'→kM n x y=some (decide (k=k'))
 | .int i, .int j,_,_,n,e1,e2=>by
   cases e1;cases e2
   have:kM n (.int i) (.int j)=some (i==j):=by cases n<;>rfl
   rw[this]
   congr 1
   by_cases h:i=j
   ·subst h;simp
   ·simp[h]
 | .str x, .str y,_,_,n,e1,e2=>by
   cases e1;cases e2
   have:kM n (.str x) (.str y)=some (x==y):=by cases n<;>rfl
   rw[this]
   congr 1
   by_cases h:x=y
   ·subst h;simp
   ·simp[h]
 | .int i, .str y,_,_,n,e1,e2=>by
   cases e1;cases e2
   have:kM n (.int i) (.str y)=some false:=by cases n<;>rfl
   rw[this]
   simp
 | .str x, .int j,_,_,n,e1,e2=>by
   cases e1;cases e2
   have:kM n (.str x) (.int j)=some false:=by cases n<;>rfl
   rw[this]
   simp
 | .non,_,_,_,_,e1,_=>by cases e1
 | .bl _,_,_,_,_,e1,_=>by cases e1
 | .raw _,_,_,_,_,e1,_=>by cases e1
 | .exc _,_,_,_,_,e1,_=>by cases e1
 | .scr _,_,_,_,_,e1,_=>by cases e1
 | .tup _,_,_,_,_,e1,_=>by cases e1
 | .lst _,_,_,_,_,e1,_=>by cases e1
 | .dct _ _,_,_,_,_,e1,_=>by cases e1
 | .dci _ _,_,_,_,_,e1,_=>by cases e1
 |_, .non,_,_,_,_,e2=>by cases e2
 |_, .bl _,_,_,_,_,e2=>by cases e2
 |_, .raw _,_,_,_,_,e2=>by cases e2
 |_, .exc _,_,_,_,_,e2=>by cases e2
 |_, .scr _,_,_,_,_,e2=>by cases e2
 |_, .tup _,_,_,_,_,e2=>by cases e2
 |_, .lst _,_,_,_,_,e2=>by cases e2
 |_, .dct _ _,_,_,_,_,e2=>by cases e2
 |_, .dci _ _,_,_,_,_,e2=>by cases e2
theorem xf{n:Nat}:∀{xs ys:List D}{k k':List Key},rG xs=some k→rG ys=some k'→nz (kM n) xs ys=some (decide (k=k'))
 |[],[],_,_,e1,e2=>by cases e1;cases e2;rfl
 |x::xs,[],_,_,e1,e2=>by
  cases e2
  unfold rG at e1
  split at e1
  ·cases e1;simp[nz]
  ·cases e1
 |[],y::ys,_,_,e1,e2=>by
  cases e1
  unfold rG at e2
  split at e2
  ·cases e2;simp[nz]
  ·cases e2
 |x::xs,y::ys,_,_,e1,e2=>by
  unfold rG at e1 e2
  split at e1
  ·rename_i k ks q1 q2
   cases e1
   split at e2
   ·rename_i k' ks' q3 q4
    cases e2
    unfold nz
    rw[ES q1 q3,xf q2 q4]
    simp
   ·cases e2
  ·cases e1
theorem CK{x y:D}{k k':List Key}{n:Nat}(e1:d8 x=some k)(e2:d8 y=some k'):kM (n+1) x y=some (decide (k=k')):=by
 cases x with
 |tup xs=>
  cases y with
  |tup ys=>exact xf (n:=n) e1 e2
  |_=>cases e2
 |_=>cases e1
theorem AD{K:W.Frag}{F:Hp}{d:D}{v:V}{k:List Key}(e:d8 d=some k)(h:Den K F d v):∃a,v= .ref a∧F a=some (.tup (k.map kV)):=by
 cases d with
 |tup ds=>
  obtain⟨a,vs,rfl,h2,h3,_⟩:=h
  have:=hX e h3
  subst this
  exact⟨a,rfl,h2⟩
 |_=>cases e
def k0(k:List Key)(ks:List (List Key)):Bool:=ks.any fun k'=>decide (k'=k)
open Classical in
noncomputable def isKey(H:Hp)(k:List Key)(u:Value):Bool:=decide (∃a,u= .ref a∧H a=some (.tup (k.map kV)))
theorem yM{K:W.Frag}{F H:Hp}{d:D}{v:V}{u:Value}{k k':List Key}(hs:Same F H)(e:d8 d=some k')(h:Den K F d v)(r:RelV v u):isKey H k u=decide (k'=k):=by
 obtain⟨a,rfl,h2⟩:=AD e h
 cases (show u=_ from r)
 unfold isKey
 by_cases hk:k'=k
 ·subst hk
  rw[decide_eq_true rfl]
  exact @decide_eq_true _ (Classical.propDecidable _) ⟨a,rfl,hs _ _ h2⟩
 ·rw[decide_eq_false hk]
  refine @decide_eq_false _ (Classical.propDecidable _) fun⟨b,e1,e2⟩=>hk ?_
  cases e1
  rw[hs _ _ h2] at e2
  injection e2 with e2
  injection e2 with e2
  exact xr e2
theorem f_{X:Cx}{pins:List (Addr×Obj)}{σ:St}{F H:Hp}{s:Shared}{A:Around}{x:D}{v:V}{u:Value}{k:List Key}(I:Inv X pins σ H s)(hs:Same F H)(hu:A.units+6<cLine)(ex:d8 x=some k)(hx:Den X.K F x v)(rx:RelV v u):
 ∀{ys:List D}{vs:List V}{aF:List Value}{ks:List (List Key)},j6 ys=some ks→DenL X.K F ys vs→Vals vs aF→aF.any (isKey H k)=k0 k ks∧∀t∈aF,EqAt A s t u (isKey H k t)
 |[],_,_,_,e,h,r=>by
  cases e
  cases (show _=_ from h)
  cases r
  exact⟨rfl,fun t ht=>by cases ht⟩
 |y::ys,_,_,_,e,⟨w,ws,h1,h2,h3⟩,r=>by
  subst h1
  unfold j6 at e
  split at e
  ·rename_i k' ks e1 e2
   cases e
   cases r with
   |cons r1 r2=>
    obtain⟨KD,KG⟩:=f_ I hs hu ex hx rx e2 h3 r2
    have hk:=yM (k:=k) hs e1 h2 r1
    refine⟨?_,fun t ht=>?_⟩
    ·rw[List.any_cons,KD,hk]
     rfl
    ·rcases List.mem_cons.mp ht with rfl | ht
     ·rw[hk]
      exact(rj I hs 6 A y x w v t u _ hu h2 hx r1 rx (CK e1 ex)).eq
     ·exact KG t ht
  ·cases e
def jF(neg:Bool):D→D→M D
 |x, .lst ys=>match d8 x,j6 ys with
  |some k,some ks=>M.ret (.bl (if neg then !k0 k ks else k0 k ks))
  |_,_=>M.stuck
 |x, .tup ys=>match d8 x,j6 ys with
  |some k,some ks=>M.ret (.bl (if neg then !k0 k ks else k0 k ks))
  |_,_=>M.stuck
 |_,_=>M.stuck
def Gw(K:W.Frag)(neg:Bool):R2:=fun x y H Q=>∃F dx ys vs p k ks,Same F H∧Den K F dx x∧d8 dx=some k∧j6 ys=some ks∧DenL K F ys vs∧y= .ref p∧(SqL K H p vs∨SqT K H p vs)∧Q (.bl (if neg then !k0 k ks else k0 k ks)) H
section
variable{X:Cx}{Xw:Nat→Hp→Prop}{a b:Expr}{δa δb:DE}{pos:Pos}
theorem A6(hu:X.A.units+64<cLine):OpR X (compareOp .In) (Gw X.K false):=by
 intro pins s σ H x y v u Q I rx ry h
 obtain⟨F,dx,ys,vs,p,k,ks,hs,hx,ex,ek,hd,rfl,hq,q⟩:=h
 cases (show u=_ from ry)
 have Cj:X.A.in1.units+6<cLine:=by show X.A.units+1+6<cLine;omega
 rcases hq with hq | hq
 ·obtain⟨aF,r,pl,hz⟩:=I.list hq
  obtain⟨e1,e2⟩:=f_ (A:=X.A.in1) I hs Cj ex hx rx ek hd r
  refine SeqAt.in_listAt (isKey H k) pl.isList (fun w hw=>e2 w (by simpa using hw)) ⟨.bl _,H,I,rfl,?_⟩
  rw[show aF.toArray.any (isKey H k)=aF.any (isKey H k) by simp,e1]
  exact q
 ·obtain⟨aF,r,pl,hz⟩:=I.tuple hq
  obtain⟨e1,e2⟩:=f_ (A:=X.A.in1) I hs Cj ex hx rx ek hd r
  refine SeqAt.in_tupleAt (isKey H k) pl (fun w hw=>e2 w (by simpa using hw)) ⟨.bl _,H,I,rfl,?_⟩
  rw[show aF.toArray.any (isKey H k)=aF.any (isKey H k) by simp,e1]
  exact q
theorem za(hu:X.A.units+64<cLine):OpR X (compareOp .NotIn) (Gw X.K true):=by
 intro pins s σ H x y v u Q I rx ry h
 obtain⟨F,dx,ys,vs,p,k,ks,hs,hx,ex,ek,hd,rfl,hq,q⟩:=h
 cases (show u=_ from ry)
 have Cj:X.A.in1.units+6<cLine:=by show X.A.units+1+6<cLine;omega
 rcases hq with hq | hq
 ·obtain⟨aF,r,pl,hz⟩:=I.list hq
  obtain⟨e1,e2⟩:=f_ (A:=X.A.in1) I hs Cj ex hx rx ek hd r
  refine SeqAt.notIn_listAt (isKey H k) pl.isList (fun w hw=>e2 w (by simpa using hw)) ⟨.bl _,H,I,rfl,?_⟩
  rw[show aF.toArray.any (isKey H k)=aF.any (isKey H k) by simp,e1]
  exact q
 ·obtain⟨aF,r,pl,hz⟩:=I.tuple hq
  obtain⟨e1,e2⟩:=f_ (A:=X.A.in1) I hs Cj ex hx rx ek hd r
  refine SeqAt.notIn_tupleAt (isKey H k) pl (fun w hw=>e2 w (by simpa using hw)) ⟨.bl _,H,I,rfl,?_⟩
  rw[show aF.toArray.any (isKey H k)=aF.any (isKey H k) by simp,e1]
  exact q
theorem vT{neg:Bool}{K:W.Frag}:vo K (Gw K neg) (jF neg):=fun Xw F H x y dx dy Q s hx hy w=>by
 unfold jF at w
 split at w
 ·rename_i ys
  split at w
  ·rename_i k ks e1 e2
   obtain⟨p,vs,h1,h2,h3,_⟩:=hy
   exact⟨F,dx,ys,vs,p,k,ks,s,hx,e1,e2,h3,h1, .inl (SqL.of (s _ _ h2)),WP.now w s rfl⟩
  ·exact w.elim
 ·rename_i ys
  split at w
  ·rename_i k ks e1 e2
   obtain⟨p,vs,h1,h2,h3,_⟩:=hy
   exact⟨F,dx,ys,vs,p,k,ks,s,hx,e1,e2,h3,h1, .inr (SqT.of (s _ _ h2)),WP.now w s rfl⟩
  ·exact w.elim
 ·exact w.elim
theorem Bv(hu:X.A.units+64<cLine)(ha:PD X Xw a δa)(hb:PD X Xw b δb)(hm:behindInMarks .In b=false:=by rfl):mm X Xw (.Compare a [.In] [b] pos) (cf (d2 (jF false) δa δb)):=eI (A6 hu) vT ha hb hm
theorem F0(hu:X.A.units+64<cLine)(ha:PD X Xw a δa)(hb:PD X Xw b δb)(hm:behindInMarks .In b=false:=by rfl):PD X Xw (.Compare a [.In] [b] pos) (d2 (jF false) δa δb):=oK (A6 hu) vT ha hb hm
theorem zl(hu:X.A.units+64<cLine)(ha:PD X Xw a δa)(hb:PD X Xw b δb)(hm:behindInMarks .NotIn b=false:=by rfl):mm X Xw (.Compare a [.NotIn] [b] pos) (cf (d2 (jF true) δa δb)):=eI (za hu) vT ha hb hm
end
end L3
namespace L3
open PySem PySem.W PyProof.Rows
def c7{α:Type}(b:Nat→Nat→Bool):KasT α→α
 | .ret a=>a
 | .ask i j k=>c7 b (k (b i j))
theorem eR{α β:Type}(b:Nat→Nat→Bool)(f:α→KasT β):∀t:KasT α,c7 b (t.bind f)=c7 b (f (c7 b t))
 | .ret _=>rfl
 | .ask i j k=>eR b f (k (b i j))
structure Lt (n:Nat) (b:Nat→Nat→Bool):Prop where
 tr:∀i j k,b i j=true→b j k=true→b i k=true
 Oj:∀i j,b i j=true→b j i=false
 tot:∀i j,i<n→j<n→i≠j→b i j=true∨b j i=true
abbrev at'(p:Array Nat)(i:Nat):Nat:=p.getD i 0
def Ri(b:Nat→Nat→Bool)(p:Array Nat)(k:Nat):Prop:=∀i j,i<j→j<k→b (at' p i) (at' p j)=true
def Fa(b:Nat→Nat→Bool)(p:Array Nat)(k:Nat):Prop:=∀i j,i<j→j<k→b (at' p j) (at' p i)=true
structure PN (n:Nat) (p:Array Nat):Prop where
 sz:p.size=n
 lt:∀i,i<n→at' p i<n
 inj:∀i j,i<n→j<n→at' p i=at' p j→i=j
section
variable{n:Nat}{b:Nat→Nat→Bool}(L:Lt n b)
include L
theorem Ri.more{p:Array Nat}{k:Nat}(h:Ri b p k)(h1:1≤k)(e:b (at' p (k - 1)) (at' p k)=true):Ri b p (k+1):=fun i j xm hj=>by
 by_cases hk:j<k
 ·exact h i j xm hk
 ·have:j=k:=by omega
  subst this
  by_cases hi:i=j - 1
  ·subst hi;exact e
  ·exact L.tr _ _ _ (h i (j - 1) (by omega) (by omega)) e
theorem Fa.more{p:Array Nat}{k:Nat}(h:Fa b p k)(h1:1≤k)(e:b (at' p k) (at' p (k - 1))=true):Fa b p (k+1):=fun i j xm hj=>by
 by_cases hk:j<k
 ·exact h i j xm hk
 ·have:j=k:=by omega
  subst this
  by_cases hi:i=j - 1
  ·subst hi;exact e
  ·exact L.tr _ _ _ e (h i (j - 1) (by omega) (by omega))
theorem qW{p:Array Nat}(P:PN n p):∀(f k:Nat),1≤k→k+f≤n→Ri b p k→k≤c7 b (kas_asc p f k)∧c7 b (kas_asc p f k)≤k+f∧Ri b p (c7 b (kas_asc p f k))∧(c7 b (kas_asc p f k)<k+f→b (at' p (c7 b (kas_asc p f k))) (at' p (c7 b (kas_asc p f k) - 1))=true)
 |0,k,h1,hn,h=>⟨Nat.le_refl _,Nat.le_refl _,h,fun z=>absurd z (Nat.lt_irrefl _)⟩
 |f+1,k,h1,hn,h=>by
  have e:c7 b (kas_asc p (f+1) k)=c7 b (if b (at' p k) (at' p (k - 1))=true then KasT.ret k else kas_asc p f (k+1)):=rfl
  rw[e]
  by_cases hb:b (at' p k) (at' p (k - 1))=true
  ·rw[if_pos hb]
   exact⟨Nat.le_refl _,by show k≤_;omega,h,fun _=>hb⟩
  ·rw[if_neg hb]
   have hr:b (at' p (k - 1)) (at' p k)=true:=by
    rcases L.tot (at' p (k - 1)) (at' p k) (P.lt _ (by omega)) (P.lt _ (by omega)) (fun z=>by have:=P.inj _ _ (by omega) (by omega) z;omega) with q | q
    ·exact q
    ·exact absurd q hb
   obtain⟨a1,a2,a3,a4⟩:=qW P f (k+1) (by omega) (by omega) (Ri.more L h h1 hr)
   exact⟨by omega,by omega,a3,fun z=>a4 (by omega)⟩
theorem tB{p:Array Nat}(P:PN n p):∀(f k:Nat),1≤k→k+f≤n→Fa b p k→∃m,c7 b (kas_desc f p k 0)=(p,m,0)∧k≤m∧m≤k+f∧Fa b p m
 |0,k,h1,hn,h=>⟨k,rfl,Nat.le_refl _,Nat.le_refl _,h⟩
 |f+1,k,h1,hn,h=>by
  have e:c7 b (kas_desc (f+1) p k 0)=c7 b (if b (at' p k) (at' p (k - 1))=true then(if 0>0 then kas_desc f (kas_rev p (k - (0+1)) k) (k+1) 0 else kas_desc f p (k+1) 0)
   else .ask (p.getD (k - 1) 0) (p.getD k 0) fun d=>if d=true then .ret (p,k,0) else kas_desc f p (k+1) (0+1)):=rfl
  rw[e]
  by_cases hb:b (at' p k) (at' p (k - 1))=true
  ·rw[if_pos hb,if_neg (by omega)]
   obtain⟨m,e1,e2,e3,e4⟩:=tB P f (k+1) (by omega) (by omega) (Fa.more L h h1 hb)
   exact⟨m,e1,by omega,by omega,e4⟩
  ·rw[if_neg hb]
   have hr:b (at' p (k - 1)) (at' p k)=true:=by
    rcases L.tot (at' p (k - 1)) (at' p k) (P.lt _ (by omega)) (P.lt _ (by omega)) (fun z=>by have:=P.inj _ _ (by omega) (by omega) z;omega) with q | q
    ·exact q
    ·exact absurd q hb
   refine⟨k,?_,Nat.le_refl _,by omega,h⟩
   show c7 b (if b (at' p (k - 1)) (at' p k)=true then KasT.ret (p,k,0) else kas_desc f p (k+1) (0+1))=_
   rw[if_pos hr]
   rfl
end
theorem dw(p:Array Nat)(k:Nat):at' p k=(p[k]?).getD 0:=by
 unfold at'
 rw[Array.getD_eq_getD_getElem?]
theorem BG{p:Array Nat}{m:Nat}(hm:m≤p.size)(k:Nat):at' (kas_rev p 0 m) k=if k<m then at' p (m - 1 - k) else at' p k:=by
 have e:=getElem?_mirror_all (xs:=p) (i:=0) hm k
 rw[dw]
 show (((mirror p 0 m ((m - 0) / 2))[k]?).getD 0)=_
 rw[e]
 by_cases h:k<m
 ·rw[if_pos ⟨Nat.zero_le _,h⟩,if_pos h,dw,Nat.zero_add]
 ·rw[if_neg (fun z=>h z.2),if_neg h,dw]
theorem zQ{p:Array Nat}{k l:Nat}(hk:k<p.size)(hl:l≤k)(j:Nat):at' (bubble p k (k - l)) j=if j=l then at' p k else if l<j∧j≤k then at' p (j - 1) else at' p j:=by
 have e:=getElem?_bubble hk (k - l) (by omega) j
 have e2:k - (k - l)=l:=by omega
 rw[e2] at e
 rw[dw (bubble p k (k - l)),e,dw p k,dw p (j - 1),dw p j]
 by_cases c1:j=l
 ·rw[if_pos c1,if_pos c1]
 ·rw[if_neg c1,if_neg c1]
  by_cases c2:l<j∧j≤k
  ·rw[if_pos c2,if_pos c2]
  ·rw[if_neg c2,if_neg c2]
section
variable{n:Nat}{b:Nat→Nat→Bool}
theorem PN.rev{p:Array Nat}(P:PN n p){m:Nat}(hm:m≤n):PN n (kas_rev p 0 m):=by
 have ha:=BG (p:=p) (m:=m) (by rw[P.sz];exact hm)
 refine⟨(mirror_size ..).trans P.sz,fun i hi=>?_,fun i j hi hj e=>?_⟩
 ·rw[ha]
  split
  ·exact P.lt _ (by omega)
  ·exact P.lt _ hi
 ·rw[ha,ha] at e
  split at e<;>split at e
  ·have:=P.inj _ _ (by omega) (by omega) e;omega
  ·have:=P.inj _ _ (by omega) hj e;omega
  ·have:=P.inj _ _ hi (by omega) e;omega
  ·exact P.inj _ _ hi hj e
theorem PN.bub{p:Array Nat}(P:PN n p){k l:Nat}(hk:k<n)(hl:l≤k):PN n (bubble p k (k - l)):=by
 have ha:=zQ (p:=p) (k:=k) (l:=l) (by rw[P.sz];exact hk) hl
 refine⟨(bubble_size ..).trans P.sz,fun i hi=>?_,fun i j hi hj e=>?_⟩
 ·rw[ha]
  split
  ·exact P.lt _ hk
  ·split
   ·exact P.lt _ (by omega)
   ·exact P.lt _ hi
 ·rw[ha,ha] at e
  split at e
  ·split at e
   ·omega
   ·split at e
    ·have:=P.inj _ _ hk (by omega) e;omega
    ·have:=P.inj _ _ hk hj e;omega
  ·split at e
   ·split at e
    ·have:=P.inj _ _ (by omega) hk e;omega
    ·split at e
     ·have:=P.inj _ _ (by omega) (by omega) e;omega
     ·have:=P.inj _ _ (by omega) hj e;omega
   ·split at e
    ·have:=P.inj _ _ hi hk e;omega
    ·split at e
     ·have:=P.inj _ _ hi (by omega) e;omega
     ·exact P.inj _ _ hi hj e
theorem Fa.rev{p:Array Nat}(P:PN n p){m:Nat}(hm:m≤n)(h:Fa b p m):Ri b (kas_rev p 0 m) m:=fun i j xm hj=>by
 have ha:=BG (p:=p) (m:=m) (by rw[P.sz];exact hm)
 rw[ha,ha,if_pos (by omega),if_pos hj]
 exact h _ _ (by omega) (by omega)
variable(L:Lt n b)
include L
theorem BZ{p:Array Nat}(P:PN n p){m:Nat}(h1:1≤m)(hm:m≤n)(h:Fa b p m):∃k q,c7 b (kas_tail3 m n p)=(k,q)∧PN n q∧1≤k∧k≤n∧Ri b q k:=by
 unfold kas_tail3
 rw[eR]
 obtain⟨a1,a2,a3,_⟩:=qW L (P.rev hm) (n - m) m h1 (by omega) (Fa.rev P hm h)
 exact⟨_,_,rfl,P.rev hm,by omega,by omega,a3⟩
theorem yz{p:Array Nat}(P:PN n p)(h2:2≤n):∃k q,c7 b (kas_count n p)=(k,q)∧PN n q∧1≤k∧k≤n∧Ri b q k:=by
 unfold kas_count
 rw[eR]
 obtain⟨a1,a2,a3,a4⟩:=qW L P (n - 1) 1 (Nat.le_refl _) (by omega) (fun i j xm hj=>by omega)
 generalize c7 b (kas_asc p (n - 1) 1)=m at a1 a2 a3 a4
 by_cases he:m=n
 ·subst he
  rw[if_pos (by simp)]
  exact⟨m,p,rfl,P,by omega,Nat.le_refl _,a3⟩
 ·rw[if_neg (by simpa using he)]
  by_cases hg:m>1
  ·rw[if_pos hg]
   have hb:b (p.getD 0 0) (p.getD (m - 1) 0)=true:=a3 0 (m - 1) (by omega) (by omega)
   show∃k q,c7 b (if b (p.getD 0 0) (p.getD (m - 1) 0)=true then KasT.ret (m,p) else kas_descPart m n (kas_rev p 0 m))=(k,q)∧_
   rw[if_pos hb]
   exact⟨m,p,rfl,P,by omega,by omega,a3⟩
  ·rw[if_neg hg]
   have hm:m=1:=by omega
   subst hm
   have hb:=a4 (by omega)
   unfold kas_descPart
   rw[eR]
   obtain⟨m,e1,e2,e3,e4⟩:=tB L P (n - (1+1)) (1+1) (by omega) (by omega) (fun i j xm hj=>by
    have hi:i=0:=by omega
    have hj:j=1:=by omega
    subst hi hj
    exact hb)
   rw[e1]
   dsimp only
   rw[if_neg (by omega)]
   exact BZ L P (by omega) (by omega) e4
theorem lh{p:Array Nat}(P:PN n p){k:Nat}(hk:k<n)(h:Ri b p k):∀(f l r:Nat),l≤r→r≤k→r - l≤f→(∀i,i<l→b (at' p i) (at' p k)=true)→(∀i,r≤i→i<k→b (at' p k) (at' p i)=true)→
 c7 b (kas_place p k f l r)≤k∧(∀i,i<c7 b (kas_place p k f l r)→b (at' p i) (at' p k)=true)∧∀i,c7 b (kas_place p k f l r)≤i→i<k→b (at' p k) (at' p i)=true
 |0,l,r,h1,h2,h3,h4,h5=>by
  have:r=l:=by omega
  subst this
  exact⟨h2,h4,h5⟩
 |f+1,l,r,h1,h2,h3,h4,h5=>by
  unfold kas_place
  by_cases LR:l≥r
  ·rw[if_pos LR]
   have:r=l:=by omega
   subst this
   exact⟨h2,h4,h5⟩
  ·rw[if_neg LR]
   have hm:(l+r) / 2<r:=by omega
   have Fe:l≤(l+r) / 2:=by omega
   show c7 b (if b (at' p k) (at' p ((l+r) / 2))=true then kas_place p k f l ((l+r) / 2) else kas_place p k f ((l+r) / 2+1) r)≤k∧(∀i,i<c7 b (if b (at' p k) (at' p ((l+r) / 2))=true then kas_place p k f l ((l+r) / 2) else kas_place p k f ((l+r) / 2+1) r)→_)∧∀i,c7 b (if b (at' p k) (at' p ((l+r) / 2))=true then kas_place p k f l ((l+r) / 2) else kas_place p k f ((l+r) / 2+1) r)≤i→_
   by_cases hb:b (at' p k) (at' p ((l+r) / 2))=true
   ·rw[if_pos hb]
    refine lh P hk h f l ((l+r) / 2) Fe (by omega) (by omega) h4 fun i hi Nc=>?_
    by_cases e:i=(l+r) / 2
    ·rw[e];exact hb
    ·exact L.tr _ _ _ hb (h _ _ (by omega) Nc)
   ·rw[if_neg hb]
    have hr:b (at' p ((l+r) / 2)) (at' p k)=true:=by
     rcases L.tot (at' p ((l+r) / 2)) (at' p k) (P.lt _ (by omega)) (P.lt _ hk) (fun z=>by have:=P.inj _ _ (by omega) hk z;omega) with q | q
     ·exact q
     ·exact absurd q hb
    refine lh P hk h f ((l+r) / 2+1) r (by omega) h2 (by omega) (fun i hi=>?_) h5
    by_cases e:i=(l+r) / 2
    ·rw[e];exact hr
    ·exact L.tr _ _ _ (h i ((l+r) / 2) (by omega) (by omega)) hr
theorem w6:∀(f:Nat) {p:Array Nat}{k:Nat},PN n p→k+f≤n→Ri b p k→PN n (c7 b (kas_bin f p k))∧Ri b (c7 b (kas_bin f p k)) (k+f)
 |0,p,k,P,_,h=>⟨P,h⟩
 |f+1,p,k,P,hn,h=>by
  have hk:k<n:=by omega
  unfold kas_bin
  rw[eR]
  obtain⟨a1,a2,a3⟩:=lh L P hk h k 0 k (Nat.zero_le _) (Nat.le_refl _) (by omega) (fun i hi=>by omega) (fun i h1 h2=>by omega)
  generalize c7 b (kas_place p k k 0 k)=l at a1 a2 a3
  have ha:=zQ (p:=p) (k:=k) (l:=l) (by rw[P.sz];exact hk) a1
  have hR:Ri b (bubble p k (k - l)) (k+1):=fun i j xm hj=>by
   rw[ha,ha]
   by_cases c1:i=l
   ·rw[if_pos c1,if_neg (by omega),if_pos ⟨by omega,by omega⟩]
    exact a3 _ (by omega) (by omega)
   ·rw[if_neg c1]
    by_cases c2:j=l
    ·rw[if_pos c2,if_neg (by omega)]
     exact a2 _ (by omega)
    ·rw[if_neg c2]
     by_cases c3:l<i∧i≤k
     ·rw[if_pos c3,if_pos ⟨by omega,by omega⟩]
      exact h _ _ (by omega) (by omega)
     ·rw[if_neg c3]
      by_cases c4:l<j∧j≤k
      ·rw[if_pos c4]
       exact h _ _ (by omega) (by omega)
      ·rw[if_neg c4]
       exact h _ _ xm (by omega)
  have:=w6 f (P.bub hk a1) (by omega) hR
  rw[show k+(f+1)=k+1+f by omega]
  exact this
theorem BR(h2:2≤n):PN n (c7 b (kas_sort n))∧Ri b (c7 b (kas_sort n)) n:=by
 have P0:PN n (List.toArray (List.range n)):=by
  have e:∀i,i<n→at' (List.toArray (List.range n)) i=i:=fun i hi=>by rw[dw];simp[hi]
  exact⟨by simp,fun i hi=>by rw[e i hi];exact hi,fun i j hi hj z=>by rw[e i hi,e j hj] at z;exact z⟩
 unfold kas_sort
 rw[eR]
 obtain⟨k,q,e,P,k1,kn,hR⟩:=yz L P0 h2
 rw[e]
 dsimp only
 by_cases dO:k<n
 ·rw[if_pos dO]
  have:=w6 L (n - max k 1) (k:=max k 1) P (by omega) (by rw[show max k 1=k by omega];exact hR)
  rw[show max k 1+(n - max k 1)=n by omega] at this
  exact this
 ·rw[if_neg dO]
  have:k=n:=by omega
  subst this
  exact⟨P,hR⟩
end
def Asks{α:Type}(n:Nat)(P:α→Prop):KasT α→Prop
 | .ret a=>P a
 | .ask i j k=>i<n∧j<n∧∀c,Asks n P (k c)
theorem Asks.bind{α β:Type}{n:Nat}{P:α→Prop}{Q:β→Prop}{f:α→KasT β}:∀{t:KasT α},Asks n P t→(∀a,P a→Asks n Q (f a))→Asks n Q (t.bind f)
 | .ret a,h,hf=>hf a h
 | .ask i j k,h,hf=>⟨h.1,h.2.1,fun c=>Asks.bind (h.2.2 c) hf⟩
theorem wp_run{α:Type}{n:Nat}{P:α→Prop}{b:Nat→Nat→Bool}{cmp:Nat→Nat→(Bool→Shared→Prop)→Shared→Prop}{Q:α→Shared→Prop}{s:Shared}(hc:∀i j C,i<n→j<n→C (b i j) s→cmp i j C s):∀{t:KasT α},Asks n P t→Q (c7 b t) s→t.kasWp cmp Q s
 | .ret a,_,h=>h
 | .ask i j k,ha,h=>hc i j _ ha.1 ha.2.1 (wp_run hc (ha.2.2 _) h)
def Below(n:Nat)(p:Array Nat):Prop:=∀x∈p,x<n
section
variable{n:Nat}(hn:0<n)
include hn
theorem Below.at{p:Array Nat}(h:Below n p)(i:Nat):at' p i<n:=by
 rw[dw]
 cases e:p[i]? with
 |none=>exact hn
 |some x=>exact h x (Array.mem_of_getElem? e)
theorem Below.rev{p:Array Nat}(h:Below n p)(i j:Nat):Below n (kas_rev p i j):=fun x hx=>h x ((mirror_perm p i j ((j - i) / 2)).mem_iff.mp hx)
theorem Below.bub{p:Array Nat}(h:Below n p)(k d:Nat):Below n (bubble p k d):=fun x hx=>h x ((bubble_perm p k d).mem_iff.mp hx)
theorem mT{p:Array Nat}(h:Below n p):∀f k,Asks n (fun _=>True) (kas_asc p f k)
 |0,k=>trivial
 |f+1,k=>⟨Below.at hn h _,Below.at hn h _,fun c=>by
  show Asks n _ (if c=true then KasT.ret k else kas_asc p f (k+1))
  cases c
  ·exact mT h f (k+1)
  ·exact trivial⟩
theorem iR:∀f {p:Array Nat} k q,Below n p→Asks n (fun r=>Below n r.1) (kas_desc f p k q)
 |0,p,k,q,h=>h
 |f+1,p,k,q,h=>⟨Below.at hn h _,Below.at hn h _,fun c=>by
  cases c
  ·refine⟨Below.at hn h _,Below.at hn h _,fun d=>?_⟩
   cases d
   ·exact iR f _ _ h
   ·exact h
  ·show Asks n _ (if q>0 then kas_desc f (kas_rev p (k - (q+1)) k) (k+1) 0 else kas_desc f p (k+1) 0)
   split
   ·exact iR f _ _ (Below.rev hn h _ _)
   ·exact iR f _ _ h⟩
theorem pR{p:Array Nat}(h:Below n p)(m r:Nat):Asks n (fun x=>Below n x.2) (kas_tail3 m r p):=Asks.bind (mT hn (Below.rev hn h 0 m) _ _) fun _ _=>Below.rev hn h 0 m
theorem mU{p:Array Nat}(h:Below n p)(m r:Nat):Asks n (fun x=>Below n x.2) (kas_descPart m r p):=Asks.bind (iR hn _ _ _ h) fun x hx=>by
 split
 ·exact pR hn (Below.rev hn hx _ _) _ _
 ·exact pR hn hx _ _
theorem vy{p:Array Nat}(h:Below n p)(r:Nat):Asks n (fun x=>Below n x.2) (kas_count r p):=Asks.bind (mT hn h _ _) fun m _=>by
 split
 ·exact h
 ·split
  ·refine⟨Below.at hn h _,Below.at hn h _,fun c=>?_⟩
   cases c
   ·exact mU hn (Below.rev hn h _ _) _ _
   ·exact h
  ·exact mU hn h _ _
theorem jA{p:Array Nat}(h:Below n p)(k:Nat):∀f l r,Asks n (fun _=>True) (kas_place p k f l r)
 |0,l,r=>trivial
 |f+1,l,r=>by
  unfold kas_place
  split
  ·exact trivial
  ·refine⟨Below.at hn h _,Below.at hn h _,fun c=>?_⟩
   cases c
   ·exact jA h k f _ _
   ·exact jA h k f _ _
theorem s_:∀f {p:Array Nat} k,Below n p→Asks n (fun _=>True) (kas_bin f p k)
 |0,p,k,h=>trivial
 |f+1,p,k,h=>Asks.bind (jA hn h k _ _ _) fun l _=>s_ f _ (Below.bub hn h _ _)
theorem yl:Asks n (fun _=>True) (kas_sort n):=by
 have h0:Below n (List.toArray (List.range n)):=fun x hx=>by simpa using hx
 refine Asks.bind (vy hn h0 n) fun x hx=>?_
 split
 ·exact s_ hn _ _ hx
 ·exact trivial
end
def dz:List Int→List Int→Bool
 |[],[]=>false
 |[],_::_=>true
 |_::_,[]=>false
 |x::xs,y::ys=>if x=y then dz xs ys else decide (x<y)
theorem rJ:∀a b c:List Int,dz a b=true→dz b c=true→dz a c=true
 |[],[],_,h,_=>by cases h
 |[],_::_,[],_,h=>by cases h
 |[],_::_,_::_,_,_=>rfl
 |_::_,[],_,h,_=>by cases h
 |_::_,_::_,[],_,h=>by cases h
 |x::a,y::b,z::c,h1,h2=>by
  unfold dz at h1 h2⊢
  by_cases e1:x=y
  ·subst e1
   rw[if_pos rfl] at h1
   by_cases e2:x=z
   ·subst e2
    rw[if_pos rfl] at h2⊢
    exact rJ a b c h1 h2
   ·rw[if_neg e2] at h2⊢
    exact h2
  ·rw[if_neg e1] at h1
   have h1:=of_decide_eq_true h1
   by_cases e2:y=z
   ·subst e2
    rw[if_neg e1]
    exact decide_eq_true h1
   ·rw[if_neg e2] at h2
    have h2:=of_decide_eq_true h2
    rw[if_neg (by omega)]
    exact decide_eq_true (by omega)
theorem j8:∀a b:List Int,dz a b=true→dz b a=false
 |[],[],h=>by cases h
 |[],_::_,_=>rfl
 |_::_,[],h=>by cases h
 |x::a,y::b,h=>by
  unfold dz at h⊢
  by_cases e:x=y
  ·subst e
   rw[if_pos rfl] at h⊢
   exact j8 a b h
  ·rw[if_neg e] at h
   have h:=of_decide_eq_true h
   rw[if_neg (fun z=>e z.symm)]
   exact decide_eq_false (by omega)
theorem nZ:∀a b:List Int,a≠b→dz a b=true∨dz b a=true
 |[],[],h=>absurd rfl h
 |[],_::_,_=> .inl rfl
 |_::_,[],_=> .inr rfl
 |x::a,y::b,h=>by
  unfold dz
  by_cases e:x=y
  ·subst e
   rw[if_pos rfl,if_pos rfl]
   exact nZ a b fun z=>h (by rw[z])
  ·rw[if_neg e,if_neg (fun z=>e z.symm)]
   by_cases q:x<y
   ·exact .inl (decide_eq_true q)
   ·exact .inr (decide_eq_true (by omega))
section
variable{prog:Program}{w:World}{A:Around}{E:Value→Shared→Prop}{s:Shared}
theorem t8{Q:Bool→Shared→Prop}:∀{us vs:List Value}{xs ys:List Int}(i:Nat) {fin:Bool},IntsAre us xs→IntsAre vs ys→fin=decide (xs.length<ys.length)→Q (dz xs ys) s→KatLex prog w A true fin Q (us.zip vs) i s
 |_,_,_,_,i,_, .nil, .nil,e,h=>by subst e;exact kat_nil h
 |_,_,_,_,i,_, .nil, .cons y t r,e,h=>by subst e;exact kat_nil h
 |_,_,_,_,i,_, .cons x t r, .nil,e,h=>by subst e;exact kat_nil h
 |_,_,_,_,i,_, .cons (vs:=us) (ns:=xs) x t r, .cons (vs:=vs) (ns:=ys) y u r',e,h=>by
  refine kat_cons (wpAny_eqBool_int ?_)
  by_cases q:x=y
  ·subst q
   rw[show (x==x)=true by simp]
   refine kat_yes (t8 (i+1) r r' (by rw[e];simp) ?_)
   unfold dz at h
   rw[if_pos rfl] at h
   exact h
  ·rw[show (x==y)=false by simpa using q]
   unfold dz at h
   rw[if_neg q] at h
   refine kat_no ?_
   by_cases hi:(i==0)=true
   ·rw[hi]
    exact oneLt_int h
   ·rw[show (i==0)=false by simpa using hi]
    exact kat_one _ _ (PyProof.Rows.lt_int h)
def TupsAt(h:Heap):List Value→List (List Int)→Prop
 |[],[]=>True
 |v::vs,k::ks=>(∃a o us m,v= .ref a∧h.get? a=some o∧o.cls= .type "tuple"∧o.data= .seq (List.toArray us) m∧IntsAre us k∧k≠[])∧TupsAt h vs ks
 |_,_=>False
theorem TupsAt.len{h:Heap}:∀{vs:List Value}{ks:List (List Int)},TupsAt h vs ks→vs.length=ks.length
 |[],[],_=>rfl
 |v::vs,k::ks,t=>by rw[List.length_cons,List.length_cons,TupsAt.len t.2]
 |[],_::_,t=>t.elim
 |_::_,[],t=>t.elim
theorem TupsAt.get{h:Heap}:∀{vs:List Value}{ks:List (List Int)}{i:Nat},TupsAt h vs ks→i<vs.length→∃a o us m,vs.getD i Value.none= .ref a∧h.get? a=some o∧o.cls= .type "tuple"∧o.data= .seq (List.toArray us) m∧IntsAre us (ks.getD i [])∧ks.getD i []≠[]
 |v::vs,k::ks,0,t,_=>t.1
 |v::vs,k::ks,i+1,t,hi=>TupsAt.get (i:=i) t.2 (by simpa using hi)
 |[],_,_,_,hi=>by simp at hi
 |_::_,[],_,t,_=>t.elim
theorem TupsAt.keep{h h':Heap}{a:Addr}(k:∀b o,b≠a→h.get? b=some o→h'.get? b=some o)(ha:∀o,h.get? a=some o→o.cls≠ .type "tuple"):∀{vs:List Value}{ks:List (List Int)},TupsAt h vs ks→TupsAt h' vs ks
 |[],[],_=>trivial
 |v::vs,x::ks,⟨⟨b,o,us,m,e1,e2,e3,e4⟩,t⟩=>⟨⟨b,o,us,m,e1,k b o (fun z=>ha o (by rw[←z];exact e2) e3) e2,e3,e4⟩,TupsAt.keep k ha t⟩
 |[],_::_,t=>t.elim
 |_::_,[],t=>t.elim
theorem nS:∀{us:List Value}{xs:List Int},IntsAre us xs→us.length=xs.length
 |_,_, .nil=>rfl
 |_,_, .cons x t r=>by rw[List.length_cons,List.length_cons,nS r]
theorem TupsAt.firsts{M:Model}{h:Heap}:∀{vs:List Value}{ks:List (List Int)},TupsAt h vs ks→∃fs,KatTups h vs fs∧fs.length=vs.length∧∀v∈fs,Looks M h (typeOf v) (.type "int")
 |[],[],_=>⟨[],KatTups.nil,rfl,fun _ z=>by cases z⟩
 |v::vs,k::ks,⟨⟨a,o,us,m,e1,e2,e3,e4,e5,e6⟩,t⟩=>by
  obtain⟨fs,q1,q2,q3⟩:=TupsAt.firsts (M:=M) t
  subst e1
  cases e5 with
  |nil=>exact absurd rfl e6
  |cons x t r=>
   refine⟨.int x t::fs,KatTups.cons e2 e3 e4 (by simp) q1,by simp[q2],fun v hv=>?_⟩
   rcases List.mem_cons.mp hv with rfl | hv
   ·exact show Looks M h (pure (Value.type "int")) (Value.type "int") from .now
   ·exact q3 v hv
 |[],_::_,t=>t.elim
 |_::_,[],t=>t.elim
theorem asked{vs:List Value}{ks:List (List Int)}(t:TupsAt s.heap vs ks)(i j:Nat)(C:Bool→Shared→Prop)(hi:i<vs.length)(hj:j<vs.length)(h:C (dz (ks.getD i []) (ks.getD j [])) s):kas_ask prog w A (tuples' true) vs i j C s:=by
 obtain⟨a,o,us,m,e1,e2,_,e4,e5,_⟩:=t.get hi
 obtain⟨a',o',OF,m',zy,GS,_,Mw,Lp,_⟩:=t.get hj
 unfold kas_ask
 rw[e1,zy]
 refine kat_lt e2 e4 GS Mw (t8 0 e5 Lp ?_ h)
 rw[List.size_toArray,List.size_toArray,nS e5,nS Lp]
theorem AU{α:Type}{l:List α}(h:l.Nodup){i j:Nat}(hi:i<l.length)(hj:j<l.length)(e:l[i]=l[j]):i=j:=by
 rcases Nat.lt_trichotomy i j with q | q | q
 ·exact absurd e (List.pairwise_iff_getElem.mp h i j hi hj q)
 ·exact q
 ·exact absurd e.symm (List.pairwise_iff_getElem.mp h j i hj hi q)
theorem lz{a:Addr}{c:Nat}{vs:List Value}{ks:List (List Int)}{P:PySem.Fin→Shared→Prop}(ho:s.heap.get? a=some (seqObj "list" vs.toArray c))(ht:TupsAt s.heap vs ks)(hd:ks.Nodup)(rm:vs.length<64)
 (h:∀(p:Array Nat) (h':Heap) (c':Nat),PN vs.length p→Ri (fun i j=>dz (ks.getD i []) (ks.getD j [])) p vs.length→h'.get? a=some (seqObj "list" (List.toArray (p.toList.map fun i=>vs.getD i Value.none)) c')→
  (∀b o,b≠a→s.heap.get? b=some o→h'.get? b=some o)→P (.done (.ret .none)) {s with heap:=h'}):wpAny (model prog w) A (Builtin.«list.sort» ⟨[.ref a],[]⟩) P E s:=by
 have sX:sizeLine=16777216:=sizeLine_eq
 have s1:=Heap.SameBut.update s.heap a (Obj.mapSeq fun _=>(#[]:Array Value))
 obtain⟨e1,LV⟩:∃e1,(s.heap.update a (Obj.mapSeq fun _=>(#[]:Array Value))).get? a=some (seqObj "list" #[] e1):=⟨_,get?_update_seq ho fun _=> #[]⟩
 have k1:∀b o,b≠a→s.heap.get? b=some o→(((s.heap.update a (Obj.mapSeq fun _=>(#[]:Array Value))).push (seqObj "tuple" vs.toArray 0)).push (seqObj "list" #[] 0)).get? b=some o:=fun b o hb e=>
  Heap.get?_push_of_some _ (Heap.get?_push_of_some _ ((s1.2 b hb).trans e))
 have Kh:=Heap.get?_push_of_some (seqObj "list" #[] 0) (Heap.get?_push_of_some (seqObj "tuple" vs.toArray 0) LV)
 have t3:=ht.keep k1 (fun o e z=>by rw[ho] at e;cases e;exact absurd (Value.type.inj z) (by decide))
 have fin:∀(st:SortSt) (p:Array Nat),PN vs.length p→Ri (fun i j=>dz (ks.getD i []) (ks.getD j [])) p vs.length→(arrOf st).map (·.2)=List.toArray (p.toList.map fun i=>vs.getD i Value.none)→failedOf st=none→
  wpAny (model prog w) A (do
   let touched:=(←seqEpoch a) !=e1
   Builtin.List.listUpdate (.ref a) fun _=>(arrOf st).map (·.2)
   if let some e:=failedOf st then rule "list.sort.comparison-raised";throw e
   if touched then rule "list.sort.modified";raiseError "ValueError" "list modified during sort"
   ret .none) P E {s with heap:=((s.heap.update a (Obj.mapSeq fun _=>(#[]:Array Value))).push (seqObj "tuple" vs.toArray 0)).push (seqObj "list" #[] 0)}:=fun st p hp hr he hf=>by
  have hz:(List.toArray (p.toList.map fun i=>vs.getD i Value.none)).size=vs.length:=by rw[List.size_toArray,List.length_map,Array.length_toList,hp.sz]
  rw[he,hf]
  refine wpAny_bind (seqEpoch_at Kh rfl (wpAny_bind (listUpdate_at Kh rfl ?_ (Nat.zero_le _) (by rw[hz,sX];omega))))
  simp only[bne_self_eq_false,Bool.false_eq_true,if_false]
  have s2:=Heap.SameBut.update (((s.heap.update a (Obj.mapSeq fun _=>(#[]:Array Value))).push (seqObj "tuple" vs.toArray 0)).push (seqObj "list" #[] 0)) a (Obj.mapSeq fun _=>List.toArray (p.toList.map fun i=>vs.getD i Value.none))
  exact wpAny_pure (h p _ _ hp hr (get?_update_seq Kh fun _=>List.toArray (p.toList.map fun i=>vs.getD i Value.none)) fun b o hb e=>(s2.2 b hb).trans (k1 b o hb e))
 rw[list_sort_plain]
 refine wpAny_bind (listItems_at ho rfl (wpAny_bind (listUpdate_at ho rfl (wpAny_bind (seqEpoch_at LV rfl ?_)) (by rw[List.size_toArray,sX];omega) (Nat.zero_le _))))
 refine wpAny_bind (wpAny_newTuple (wpAny_bind (wpAny_newList (wpAny_holding ?_) (Nat.zero_le _))) (by show vs.length≤_;rw[sX];omega))
 show wpAny (model prog w) A _ P E {s with heap:=((s.heap.update a (Obj.mapSeq fun _=>(#[]:Array Value))).push (seqObj "tuple" vs.toArray 0)).push (seqObj "list" #[] 0)}
 dsimp only
 by_cases hs:vs.toArray.size<2
 ·rw[if_pos hs,if_pos hs]
  have Cd:vs.length<2:=by simpa using hs
  refine wpAny_bind (wpAny_pure (wpAny_bind (wpAny_pure ?_)))
  refine fin (SortSt.mk' general' (vs.toArray.zip vs.toArray) #[] 7 none) (List.toArray (List.range vs.length)) ⟨by simp,fun i hi=>?_,fun i j hi hj _=>by omega⟩ (fun i j xm hj=>by omega) ?_ rfl
  ·rw[dw];simp[hi]
  ·show (vs.toArray.zip vs.toArray).map (·.2)=_
   apply Array.toList_inj.mp
   refine List.ext_getElem (by simp) fun i a1 a2=>?_
   simp at a1
   simp[a1]
 ·rw[if_neg hs,if_neg hs]
  have Cd:2≤vs.length:=by
   have:¬vs.length<2:=by simpa using hs
   omega
  obtain⟨fs,q1,q2,q3⟩:=t3.firsts (M:=model prog w)
  refine wpAny_bind (kat_kind q1 (by omega) q3 rfl ?_)
  have hb:Lt vs.length (fun i j=>dz (ks.getD i []) (ks.getD j [])):=⟨fun i j k=>rJ _ _ _,fun i j=>j8 _ _,fun i j hi hj xm=>nZ _ _ fun z=>xm (by
   rw[ht.len] at hi hj
   rw[List.getD_eq_getElem?_getD,List.getD_eq_getElem?_getD,List.getElem?_eq_getElem hi,List.getElem?_eq_getElem hj] at z
   exact AU hd hi hj (by simpa using z))⟩
  obtain⟨r1,r2⟩:=BR hb Cd
  have run:=kat_run (prog:=prog) (w:=w) (A:=A) (E:=E) (ks:=vs) (vs:=vs) (κ:=tuples' true) (Q:=fun st s'=>s'={s with heap:=((s.heap.update a (Obj.mapSeq fun _=>(#[]:Array Value))).push (seqObj "tuple" vs.toArray 0)).push (seqObj "list" #[] 0)}∧∃p,PN vs.length p∧Ri (fun i j=>dz (ks.getD i []) (ks.getD j [])) p vs.length∧(arrOf st).map (·.2)=List.toArray (p.toList.map fun i=>vs.getD i Value.none)∧failedOf st=none)
   (G:=fun p s'=>s'={s with heap:=((s.heap.update a (Obj.mapSeq fun _=>(#[]:Array Value))).push (seqObj "tuple" vs.toArray 0)).push (seqObj "list" #[] 0)}∧PN vs.length p∧Ri (fun i j=>dz (ks.getD i []) (ks.getD j [])) p vs.length) rfl Cd rm
   (fun p o5 s' a1 a2 a3 a4=>⟨a4.1,p,a4.2.1,a4.2.2,kat_snds rfl a2,a3⟩)
   (wp_run (s:={s with heap:=((s.heap.update a (Obj.mapSeq fun _=>(#[]:Array Value))).push (seqObj "tuple" vs.toArray 0)).push (seqObj "list" #[] 0)}) (fun i j C hi hj hC=>asked t3 i j C hi hj hC) (yl (by omega)) ⟨rfl,r1,r2⟩)
  refine wpAny_bind (wpAny_mono run ?_ fun _ _ e=>e)
  rintro⟨⟨⟩,o5⟩ s' ⟨rfl,p,a1,a2,a3,a4⟩
  exact fin o5 p a1 a2 a3 a4
end
section
variable{prog:Program}{w:World}{A:Around}{E:Value→Shared→Prop}{s:Shared}
theorem qi{d:Addr}{od:Obj}{es:Array DictEntry}{ep:Nat}{Q:Value→Shared→Prop}(lo:(d==sysModules)=false)(ho:s.heap.get? d=some od)(hx:od.ExactDict)(hd:od.data= .dict es ep)
 (hQ:Q (.ref s.heap.objs.size) {s with heap:=s.heap.push {cls:= .type "dict_keyiterator",data:= .fields #[.ref d, .int 0 0, .int es.size 0, .int ep 0]} }):wpAny (model prog w) A (pyIter (.ref d)) Q E s:=by
 have hT:s.TypeIs (.ref d) "dict":=⟨od,ho,hx.1⟩
 refine wpAny_pyIter_slot hT F.slot_dict_iter (wpAny_call_entry F.slot_dict_iter hT F.entry_dict_iter ?_ (F.args_dict_iter_1 _))
 unfold Builtin.«dict.__iter__» Builtin.Dict.dictSlotNone
 refine wpAny_bind (wpAny_bind (wpAny_notOrdered_dict hT ?_))
 show wpAny _ _ (pure (Value.ref d)) _ _ s
 refine wpAny_pure ?_
 show wpAny _ _ (Builtin.Dict.showsAll d>>=_) _ _ s
 unfold Builtin.Dict.showsAll
 rw[if_neg (by rw[lo];exact Bool.false_ne_true)]
 refine wpAny_bind (wpAny_pure (wpAny_bind (wpAny_dictEntries ho hd (wpAny_bind (wpAny_dictEpoch ho hd ?_)))))
 refine wpAny_bind (wpAny_newObj_type (wpAny_pure ⟨_,rfl,"dict_keyiterator",_,⟨_,Heap.get?_push_size _ rfl,rfl⟩,F.slot_dict_keyiterator_next.lookup,?_⟩))
 simpa[rawInt] using hQ
theorem uh{it d:Addr}{od:Obj}{es:Array DictEntry}{i ep:Nat}{e:DictEntry}{Q:Option Value→Shared→Prop}(hit:s.heap.IsKeyIter it d i es.size ep)(yI:s.heap.get? d=some od)(mr:od.data= .dict es ep)(hx:es[i]? =some e)
 (hQ:∀h',h'.IsKeyIter it d (i+1) es.size ep→Heap.SameBut it s.heap h'→Q (some e.key) {s with heap:=h'}):wpAny (model prog w) A (pyNext (.ref it)) Q E s:=by
 obtain⟨o,ho,hc,hd⟩:=id hit
 have dO:i<es.size:=(Array.getElem?_eq_some_iff.mp hx).1
 have yK:Builtin.Dict_items.ownsTuple "dict_keyiterator"=false:=by decide
 unfold pyNext
 refine wpAny_bind (wpAny_attempt (wpAny_callSpecial?_slot (name:=Str.ofString "__next__") hit.typeIs F.slot_dict_keyiterator_next
  (wpAny_call_entry F.slot_dict_keyiterator_next hit.typeIs F.entry_dict_keyiterator_next ?_ (F.args_dict_keyiterator_next_1 _))))
 refine wpAny_bind (wpAny_pure (wpAny_bind (wpAny_bind ?_)))
 first | refine wpAny_bind (wpAny_typeNameOfWhole_keyiter hit.typeIs (wpAny_pure ?_)) | refine wpAny_bind (wpAny_typeNameOf_keyiter hit.typeIs (wpAny_pure ?_))
 refine wpAny_bind (wpAny_fieldsOf ho hd ?_)
 simp only[yK,Bool.false_eq_true,if_false]
 show wpAny _ _ (if (Value.ref d==Value.none)=true then _ else _) _ _ s
 rw[if_neg (show¬((Value.ref d==Value.none)=true) from Bool.false_ne_true)]
 refine wpAny_bind (wpAny_pure (wpAny_bind (wpAny_dictEntries yI mr ?_)))
 rw[if_neg (by simp)]
 refine wpAny_bind (wpAny_pure (wpAny_bind (wpAny_dictEpoch yI mr ?_)))
 rw[if_neg (by simp)]
 refine wpAny_pure ?_
 simp only[show¬((i:Int)<0) from by omega,if_false,Int.toNat_natCast,hx]
 refine wpAny_bind ?_
 first | refine wpAny_bind (wpAny_typeNameOfWhole_keyiter hit.typeIs (wpAny_pure ?_)) | refine wpAny_bind (wpAny_typeNameOf_keyiter hit.typeIs (wpAny_pure ?_))
 refine wpAny_bind (wpAny_isOneOf_keyiter hit.typeIs ?_)
 show wpAny _ _ (setField (.ref it) 1 (rawInt ((i:Int)+1))>>=_) _ _ s
 refine wpAny_bind (wpAny_setField ho hd (by simp) ?_)
 have yG:(s.heap.update it (Obj.mapFields (·.setIfInBounds 1 (rawInt ((i:Int)+1))))).IsKeyIter it d (i+1) es.size ep:=
  ⟨_,Heap.get?_update_self _ ho (Obj.isFreed_of_fields (Obj.data_mapFields hd _)),(Obj.cls_mapFields ..).trans hc,by rw[Obj.data_mapFields hd];simp[rawInt]⟩
 refine wpAny_bind (wpAny_holding (wpAny_bind (wpAny_isOneOf_keyiter (s:={s with heap:=s.heap.update it (Obj.mapFields (·.setIfInBounds 1 (rawInt ((i:Int)+1))))}) yG.typeIs ?_)))
 show wpAny _ _ (pure e.key) _ _ _
 exact wpAny_pure (wpAny_pure ⟨_,rfl,wpAny_pure (hQ _ yG (Heap.SameBut.update ..))⟩)
theorem p5{it d:Addr}{od:Obj}{es:Array DictEntry}{ep i:Nat}{Q:Option Value→Shared→Prop}(hh:A.handled=none)(hit:s.heap.IsKeyIter it d i es.size ep)(hi:es.size≤i)(yI:s.heap.get? d=some od)(mr:od.data= .dict es ep)
 (hQ:∀h',Heap.ExtBut it s.heap h'→Q none {s with heap:=h'}):wpAny (model prog w) A (pyNext (.ref it)) Q E s:=by
 obtain⟨o,ho,hc,hd⟩:=id hit
 have yK:Builtin.Dict_items.ownsTuple "dict_keyiterator"=false:=by decide
 unfold pyNext
 refine wpAny_bind (wpAny_attempt (wpAny_callSpecial?_slot (name:=Str.ofString "__next__") hit.typeIs F.slot_dict_keyiterator_next
  (wpAny_call_entry F.slot_dict_keyiterator_next hit.typeIs F.entry_dict_keyiterator_next ?_ (F.args_dict_keyiterator_next_1 _))))
 refine wpAny_bind (wpAny_pure (wpAny_bind (wpAny_bind ?_)))
 first | refine wpAny_bind (wpAny_typeNameOfWhole_keyiter hit.typeIs (wpAny_pure ?_)) | refine wpAny_bind (wpAny_typeNameOf_keyiter hit.typeIs (wpAny_pure ?_))
 refine wpAny_bind (wpAny_fieldsOf ho hd ?_)
 simp only[yK,Bool.false_eq_true,if_false]
 show wpAny _ _ (if (Value.ref d==Value.none)=true then _ else _) _ _ s
 rw[if_neg (show¬((Value.ref d==Value.none)=true) from Bool.false_ne_true)]
 refine wpAny_bind (wpAny_pure (wpAny_bind (wpAny_dictEntries yI mr ?_)))
 rw[if_neg (by simp)]
 refine wpAny_bind (wpAny_pure (wpAny_bind (wpAny_dictEpoch yI mr ?_)))
 rw[if_neg (by simp)]
 refine wpAny_pure ?_
 simp only[show¬((i:Int)<0) from by omega,if_false,Int.toNat_natCast,Array.getElem?_eq_none hi]
 refine wpAny_bind ?_
 first | refine wpAny_bind (wpAny_typeNameOfWhole_keyiter hit.typeIs (wpAny_pure ?_)) | refine wpAny_bind (wpAny_typeNameOf_keyiter hit.typeIs (wpAny_pure ?_))
 show wpAny _ _ (setField (.ref it) 0 .none>>=_) _ _ s
 refine wpAny_bind (wpAny_setField ho hd (by simp) ?_)
 show wpAny _ _ (newExc (.type "StopIteration") []>>=_) _ _ _
 refine wpAny_bind ?_
 simp only[newExc,newTuple]
 refine wpAny_bind (wpAny_newObj_type ?_ (by size_fits))
 refine wpAny_bind (m:=firstArgMember _ _) (wpAny_of_eq (a:=Value.none) (by first | rfl | (simp only[firstArgMember];rfl)) ?_)
 refine wpAny_newObj_type ?_ (by size_fits)
 simp only[raiseNew]
 refine wpAny_bind (wpAny_handled ?_)
 rw[show A.in1.handled=none from hh]
 refine wpAny_bind (wpAny_pure (wpAny_throw ?_))
 refine wpAny_bind (wpAny_isInstance (T:="StopIteration") (b:=true) ⟨_,Heap.get?_push_size _ rfl,rfl⟩ isSubtype_stop ?_)
 exact wpAny_pure (hQ _ (((Heap.SameBut.update ..).extBut.push _).push _))
theorem Ab{it d:Addr}{od:Obj}{es:Array DictEntry}{ep:Nat}{Q:Option Value→Shared→Prop}(hh:A.handled=none)(hit:s.heap.IsKeyIter it d es.size es.size ep)(yI:s.heap.get? d=some od)(mr:od.data= .dict es ep)
 (hQ:∀h',Heap.ExtBut it s.heap h'→Q none {s with heap:=h'}):wpAny (model prog w) A (pyNext (.ref it)) Q E s:=p5 hh hit (Nat.le_refl _) yI mr hQ
def D8(es:Array DictEntry):Nat→Value→Prop:=fun i v=>∃e,es[i]? =some e∧v=e.key
theorem wL(hh:A.handled=none)(I d:Addr)(fm:d≠I){od:Obj}{es:Array DictEntry}{ep:Nat}(mr:od.data= .dict es ep):
 Walks prog w A I [I,d] [I] es.size (D8 es) (fun i h=>h.IsKeyIter I d i es.size ep∧h.get? d=some od) where
 sub:=fun b hb=>by simp at hb;simp[hb]
 frame:=fun _ _ _ st hk=>⟨st.1.at fun o e=>hk I (by simp) o e,hk d (by simp) _ st.2⟩
 item:=fun i s Q E hi st hQ=>by
  have hx:es[i]? =some es[i]:=Array.getElem?_eq_getElem hi
  exact uh st.1 st.2 mr hx fun h' yG tV=>hQ _ h' s.toks ⟨_,hx,rfl⟩ ⟨yG,(tV.2 d fm).trans st.2⟩ fun b o hb e=>tV.extBut b o (fun h=>hb (by simp[h])) e
 done:=fun s Q E st hQ=>Ab hh st.1 st.2 mr fun h' J4=>hQ h' s.toks fun b o hb e=>J4 b o (fun h=>hb (by simp[h])) e
 self:=fun _ _ _ _ st hQ=>wpAny_pyIter_keyiter st.1 hQ
theorem u0{d:Addr}{od:Obj}{es:Array DictEntry}{ep:Nat}(lo:(d==sysModules)=false)(hx:od.ExactDict)(mr:od.data= .dict es ep):KdlSrc prog w "dict" d d es.size (D8 es) (fun h=>h.get? d=some od) where
 type:=fun _ hm=>⟨od,hm,hx.1⟩
 there:=fun _ hm=>⟨Heap.lt_size hm,Heap.lt_size hm⟩
 keep:=fun _ _ hm hk=>hk d (.inl rfl) od hm
 notList:=by decide
 notTuple:=by decide
 hint:=fun _ _ s _ hm hq=>kdl_hint_dict ⟨od,hm,hx.1⟩ hq
 iter:=fun _ _ hh hm=>⟨_,_,(fun _ _ hq=>qi lo hm hx mr hq),wL hh _ d (Nat.ne_of_lt (Heap.lt_size hm)) mr,⟨⟨_,Heap.get?_push_size _ rfl,rfl,rfl⟩,Heap.get?_push_of_some _ hm⟩⟩
end
end L3
namespace L3
open PySem
def insI(k:List Int):List (List Int)→List (List Int)
 |[]=>[k]
 |x::r=>if dz k x then k::x::r else x::insI k r
def sortI:List (List Int)→List (List Int)
 |[]=>[]
 |k::r=>insI k (sortI r)
def vw(l:List (List Int)):Prop:=l.Pairwise fun a b=>dz a b=true
theorem nQ{k x:List Int}:∀{l:List (List Int)},x∈insI k l↔x=k∨x∈l
 |[]=>by simp[insI]
 |y::r=>by
  unfold insI
  split
  ·simp
  ·rw[List.mem_cons,nQ,List.mem_cons]
   constructor
   ·rintro(h | h | h)<;>simp[h]
   ·rintro(h | h | h)<;>simp[h]
theorem qe{k:List Int}:∀{l:List (List Int)},vw l→k∉l→vw (insI k l)
 |[],_,_=>List.pairwise_singleton _ _
 |x::r,h,hk=>by
  have h:=List.pairwise_cons.mp h
  unfold insI
  split
  ·rename_i q
   refine List.pairwise_cons.mpr ⟨fun y hy=>?_,List.pairwise_cons.mpr h⟩
   rcases List.mem_cons.mp hy with rfl | hy
   ·exact q
   ·exact rJ _ _ _ q (h.1 y hy)
  ·rename_i q
   have hx:dz x k=true:=by
    rcases nZ k x (fun z=>hk (by rw[z];exact List.mem_cons_self ..)) with z | z
    ·exact absurd z q
    ·exact z
   refine List.pairwise_cons.mpr ⟨fun y hy=>?_,qe h.2 fun z=>hk (List.mem_cons_of_mem _ z)⟩
   rcases nQ.mp hy with rfl | hy
   ·exact hx
   ·exact h.1 y hy
theorem cY{x:List Int}:∀{l:List (List Int)},x∈sortI l↔x∈l
 |[]=>Iff.rfl
 |k::r=>by unfold sortI;rw[nQ,cY,List.mem_cons]
theorem fi:∀{l:List (List Int)},l.Nodup→vw (sortI l)
 |[],_=>List.Pairwise.nil
 |k::r,h=>by
  have h:=List.nodup_cons.mp h
  exact qe (fi h.2) fun z=>h.1 (cY.mp z)
theorem kC:∀{a b:List (List Int)},vw a→vw b→(∀x,x∈a↔x∈b)→a=b
 |[],[],_,_,_=>rfl
 |[],y::b,_,_,h=>by have:=(h y).mpr (List.mem_cons_self ..);cases this
 |x::a,[],_,_,h=>by have:=(h x).mp (List.mem_cons_self ..);cases this
 |x::a,y::b,ha,hb,h=>by
  have ha:=List.pairwise_cons.mp ha
  have hb:=List.pairwise_cons.mp hb
  have e:x=y:=by
   rcases List.mem_cons.mp ((h x).mp (List.mem_cons_self ..)) with q | q
   ·exact q
   ·rcases List.mem_cons.mp ((h y).mpr (List.mem_cons_self ..)) with p | p
    ·exact p.symm
    ·have z1:=hb.1 x q
     have z2:=ha.1 y p
     rw[j8 _ _ z1] at z2
     cases z2
  subst e
  have L8:∀k,dz k k≠true:=fun k z=>by have:=j8 _ _ z;rw[z] at this;cases this
  rw[kC ha.2 hb.2 fun z=>?_]
  constructor
  ·intro hz
   rcases List.mem_cons.mp ((h z).mp (List.mem_cons_of_mem _ hz)) with q | q
   ·subst q;exact absurd (ha.1 z hz) (L8 z)
   ·exact q
  ·intro hz
   rcases List.mem_cons.mp ((h z).mpr (List.mem_cons_of_mem _ hz)) with q | q
   ·subst q;exact absurd (hb.1 z hz) (L8 z)
   ·exact q
theorem wu:∀(n:Nat) (l:List Nat),l.Nodup→(∀x∈l,x<n)→l.length=n→∀k,k<n→k∈l
 |0,_,_,_,_,k,hk=>by omega
 |n+1,l,hd,hl,hn,k,hk=>by
  by_cases h:n∈l
  ·by_cases e:k=n
   ·subst e;exact h
   ·refine List.mem_of_mem_erase (wu n (l.erase n) (hd.erase n) (fun x hx=>?_) (by rw[List.length_erase_of_mem h,hn];rfl) k (by omega))
    have hx:=hd.mem_erase_iff.mp hx
    have:=hl x hx.2
    have:=hx.1
    omega
  ·cases l with
   |nil=>simp at hn
   |cons x r=>
    have hd:=List.nodup_cons.mp hd
    have lt:∀y∈x::r,y<n:=fun y hy=>by
     have:=hl y hy
     have:y≠n:=fun z=>h (by rw[←z];exact hy)
     omega
    exact absurd (wu n r hd.2 (fun y hy=>lt y (List.mem_cons_of_mem _ hy)) (by simpa using hn) x (lt x (List.mem_cons_self ..))) hd.1
theorem lA{ks:List (List Int)}{p:Array Nat}(hd:ks.Nodup)(P:PN ks.length p)(R:Ri (fun i j=>dz (ks.getD i []) (ks.getD j [])) p ks.length):(p.toList.map fun i=>ks.getD i [])=sortI ks:=by
 have hsz:p.toList.length=ks.length:=by rw[Array.length_toList];exact P.sz
 have GW:∀i (h:i<p.toList.length),p.toList[i]=at' p i:=fun i h=>by
  have h':i<p.size:=by rw[Array.length_toList] at h;exact h
  rw[dw,Array.getElem?_eq_getElem h']
  simp
 refine kC ?_ (fi hd) fun x=>?_
 ·refine List.pairwise_iff_getElem.mpr fun i j hi hj xm=>?_
  rw[List.length_map] at hi hj
  rw[List.getElem_map,List.getElem_map,GW i hi,GW j hj]
  exact R i j xm (by omega)
 ·rw[cY]
  constructor
  ·intro hx
   obtain⟨i,hi,rfl⟩:=List.mem_map.mp hx
   obtain⟨j,hj,rfl⟩:=List.mem_iff_getElem.mp hi
   have:=P.lt j (by omega)
   rw[GW j hj,List.getD_eq_getElem?_getD,List.getElem?_eq_getElem this]
   exact List.getElem_mem this
  ·intro hx
   obtain⟨k,hk,rfl⟩:=List.mem_iff_getElem.mp hx
   have xo:k∈p.toList:=by
    have hn:p.toList.Nodup:=List.pairwise_iff_getElem.mpr fun i j hi hj xm z=>by
     rw[GW i hi,GW j hj] at z
     have:=P.inj i j (by omega) (by omega) z
     omega
    exact wu ks.length p.toList hn (fun x hx=>by
     obtain⟨j,hj,rfl⟩:=List.mem_iff_getElem.mp hx
     rw[GW j hj]
     exact P.lt j (by omega)) hsz k hk
   refine List.mem_map.mpr ⟨k,xo,?_⟩
   rw[List.getD_eq_getElem?_getD,List.getElem?_eq_getElem hk]
   rfl
end L3
namespace L3
open PySem PySem.Spec L2 SeqAt HT
open PyProof.Rows hiding St
def tupI(k:List Int):D:= .tup (k.map D.int)
def Et:D→Option (List Int)
 | .tup ds=>nums ds
 |_=>none
def eZ:List D→Option (List (List Int))
 |[]=>some []
 |d::ds=>match Et d,eZ ds with
  |some k,some ks=>some (k::ks)
  |_,_=>none
def cR(ks:List (List Int)):Bool:=decide ks.Nodup&&decide (ks.length<64)&&ks.all fun k=>!k.isEmpty
def DW:List D→M D
 |[.lst ds]=>match eZ ds with
  |some ks=>if cR ks then M.ret (.lst ((sortI ks).map tupI)) else M.stuck
  |none=>M.stuck
 |_=>M.stuck
def bW(H:Hp):List V→List (List Int)→Prop:=Paired fun v k=>∃a,v= .ref a∧H a=some (.tup (k.map V.int))
theorem kT{K:W.Frag}{F H:Hp}(hs:Same F H):∀{ds:List D}{vs:List V}{ks:List (List Int)},eZ ds=some ks→DenL K F ds vs→bW H vs ks∧bW F vs ks
 |[],_,_,e,h=>by cases e;cases (show _=_ from h);exact⟨.nil, .nil⟩
 |d::ds,_,_,e,⟨v,r,h1,h2,h3⟩=>by
  subst h1
  unfold eZ at e
  split at e
  ·rename_i k ks e1 e2
   cases e
   obtain⟨KD,KG⟩:=kT hs e2 h3
   cases d with
   |tup es=>
    obtain⟨a,ws,rfl,k2,k3,_⟩:=h2
    have:=j4 e1 k3
    subst this
    exact⟨.cons ⟨a,rfl,hs _ _ k2⟩ KD, .cons ⟨a,rfl,k2⟩ KG⟩
   |_=>cases e1
  ·cases e
theorem iw{K:W.Frag}{F:Hp}:∀{ws:List V}{ks:List (List Int)},bW F ws ks→(∀k∈ks,k.length≤lim)→DenL K F (ks.map tupI) ws
 |_,_, .nil,_=>rfl
 |_,_, .cons (b:=k) h t,hl=>by
  obtain⟨a,rfl,h⟩:=h
  exact .cons ⟨a,_,rfl,h,DenL.ints k,by rw[List.length_map];exact hl k (List.mem_cons_self ..)⟩ (iw t fun k hk=>hl k (List.mem_cons_of_mem _ hk))
theorem i_{X:Cx}{pins:List (Addr×Obj)}{σ:St}{H:Hp}{s:Shared}(I:Inv X pins σ H s):∀{vs:List V}{aF:List Value}{ks:List (List Int)},bW H vs ks→Vals vs aF→(∀k∈ks,k≠[])→TupsAt s.heap aF ks
 |_,_,_, .nil,r,_=>by cases r;exact trivial
 |_,_,_, .cons (b:=k) h t,r,hn=>by
  obtain⟨a,rfl,h⟩:=h
  cases r with
  |cons r1 r2=>
   cases (show _=_ from r1)
   obtain⟨us,ru,pt,_⟩:=I.tuple (SqT.of (K:=X.K) h)
   obtain⟨o,q1,q2,m,q3⟩:=pt
   exact⟨⟨a,o,us,m,rfl,q1,q2,q3,intsAre_of ru,hn k (List.mem_cons_self ..)⟩,i_ I t r2 fun k hk=>hn k (List.mem_cons_of_mem _ hk)⟩
theorem kB{H:Hp}:∀{vs:List V}{ks:List (List Int)}{i:Nat},bW H vs ks→i<vs.length→∃a,vs.getD i .non= .ref a∧H a=some (.tup ((ks.getD i []).map V.int))
 |_,_,i, .nil,hi=>by simp at hi
 |_,_,0, .cons h t,_=>h
 |_,_,i+1, .cons h t,hi=>kB (i:=i) t (by simpa using hi)
theorem eo{H:Hp}:∀{vs:List V}{ks:List (List Int)},bW H vs ks→vs.length=ks.length
 |_,_, .nil=>rfl
 |_,_, .cons h t=>by rw[List.length_cons,List.length_cons,eo t]
theorem gj{H:Hp}{vs:List V}{ks:List (List Int)}(h:bW H vs ks):∀{is:List Nat},(∀i∈is,i<vs.length)→bW H (is.map fun i=>vs.getD i .non) (is.map fun i=>ks.getD i [])
 |[],_=> .nil
 |i::is,hi=> .cons (kB h (hi i (List.mem_cons_self ..))) (gj h fun j hj=>hi j (List.mem_cons_of_mem _ hj))
theorem lC:∀{vs:List V}{us:List Value}(i:Nat),Vals vs us→i<vs.length→RelV (vs.getD i .non) (us.getD i Value.none)
 |_,_,i, .nil,hi=>by simp at hi
 |_,_,0, .cons h t,_=>h
 |_,_,i+1, .cons h t,hi=>lC i t (by simpa using hi)
theorem jd{vs:List V}{us:List Value}(h:Vals vs us):∀{is:List Nat},(∀i∈is,i<vs.length)→Vals (is.map fun i=>vs.getD i .non) (is.map fun i=>us.getD i Value.none)
 |[],_=> .nil
 |i::is,hi=> .cons (lC i h (hi i (List.mem_cons_self ..))) (jd h fun j hj=>hi j (List.mem_cons_of_mem _ hj))
def KZ(K:W.Frag):List V→Hp→VK→Prop:=fun xs H Q=>∃p vs ks,xs=[.ref p]∧SqL K H p vs∧bW H vs ks∧cR ks=true∧∀(q:Addr) (is:List Nat),H q=none→(∀i∈is,i<vs.length)→is.length=vs.length→(is.map fun i=>ks.getD i [])=sortI ks→Q (.ref q) (upd H q (.lst (is.map fun i=>vs.getD i .non)))
section
variable{X:Cx}{Xw:Nat→Hp→Prop}{e:Expr}{δs:DA}{pos p:Pos}
theorem zV:CallR X (.builtin "sorted") (KZ X.K):=by
 intro pins s σ H xs us Q I r h
 obtain⟨a,vs,ks,rfl,hq,hr,hk,q⟩:=h
 obtain⟨u,rfl,r1⟩:=r.one
 cases (show u=_ from r1)
 obtain⟨aF,rv,pl,hz⟩:=I.list hq
 unfold cR at hk
 rw[Bool.and_eq_true,Bool.and_eq_true] at hk
 have hd:ks.Nodup:=of_decide_eq_true hk.1.1
 have rm:ks.length<64:=of_decide_eq_true hk.1.2
 have fm:∀k∈ks,k≠[]:=fun k tT z=>by have:=List.all_eq_true.mp hk.2 k tT;rw[z] at this;cases this
 have vq:=eo hr
 have Cd:=rv.length
 have sX:sizeLine=16777216:=sizeLine_eq
 have ht:=i_ I hr rv fm
 refine Calls.call_function_entry kind_sorted plain_sorted entry_sorted (args_sorted1 _) ?_
 unfold Builtin.«sorted»
 refine wpAny_bind (m:=checkCount "sorted" 1 1 _) (wpAny_pure (wpAny_bind (collect_list pl.isList (wpAny_bind (wpAny_newList ?_ (by rw[sX];omega))) (by rw[sX];omega))))
 have hsz:((s.heap.push (seqObj "list" #[] 0)).update s.heap.objs.size (Obj.mapSeq (· ++aF.toArray))).objs.size=s.heap.objs.size+1:=by rw[Heap.size_update,size_push']
 have keep:∀b o,s.heap.get? b=some o→(((s.heap.push (seqObj "list" #[] 0)).update s.heap.objs.size (Obj.mapSeq (· ++aF.toArray))).push (seqObj "list" aF.toArray 0)).get? b=some o:=fun b o e=>by
  have dO:=Heap.lt_size e
  exact Heap.get?_push_of_some _ ((Heap.get?_update_ne _ _ _ _ (Nat.ne_of_lt dO)).trans (Heap.get?_push_of_some _ e))
 have Ce:(((s.heap.push (seqObj "list" #[] 0)).update s.heap.objs.size (Obj.mapSeq (· ++aF.toArray))).push (seqObj "list" aF.toArray 0)).get? (s.heap.objs.size+1)=some (seqObj "list" aF.toArray 0):=by
  rw[←hsz];exact Heap.get?_push_size _ rfl
 show wpAny _ _ _ _ _ {s with heap:=((s.heap.push (seqObj "list" #[] 0)).update s.heap.objs.size (Obj.mapSeq (· ++aF.toArray))).push (seqObj "list" aF.toArray 0)}
 rw[hsz]
 refine wpAny_bind (wpAny_holding (wpAny_call_entry slot_list_sort ⟨_,Ce,rfl⟩ entry_list_sort (lz (s:={s with heap:=((s.heap.push (seqObj "list" #[] 0)).update s.heap.objs.size (Obj.mapSeq (· ++aF.toArray))).push (seqObj "list" aF.toArray 0)}) Ce
  (ht.keep (a:=s.heap.objs.size) (fun b o _ e=>keep b o e) (fun o e=>absurd (Heap.lt_size e) (Nat.lt_irrefl _))) hd (by omega) fun P h' c' hP hR rz tU=>?_) (args_list_sort _)))
 have Ca:∀i∈P.toList,i<vs.length:=fun i hi=>by
  obtain⟨j,hj,rfl⟩:=List.mem_iff_getElem.mp hi
  have h':j<P.size:=by rw[Array.length_toList] at hj;exact hj
  have:=hP.lt j (by rw[hP.sz] at h';exact h')
  rw[dw,Array.getElem?_eq_getElem h'] at this
  have e:P.toList[j]=P[j]:=by simp
  rw[e]
  have:P[j]<aF.length:=this
  omega
 have Ht:PN ks.length P:=by rw[←vq,Cd];exact hP
 have Hu:Ri (fun i j=>dz (ks.getD i []) (ks.getD j [])) P ks.length:=by rw[←vq,Cd];exact hR
 have Cg:=lA hd Ht Hu
 have Fb:H (s.heap.objs.size+1)=none:=I.hok.fresh (Nat.le_succ _)
 refine⟨_,rfl,wpAny_pure ⟨_,rfl,⟨.ref (s.heap.objs.size+1),_,I.laid (a:=s.heap.objs.size+1) (t':=s.toks) (o:= .lst (P.toList.map fun i=>vs.getD i .non)) (fun b ob e=>tU b ob (Nat.ne_of_lt (Nat.lt_succ_of_lt (Heap.lt_size e))) (keep b ob e)) (Nat.le_succ _) ?_,rfl,q _ P.toList Fb Ca (by rw[Array.length_toList,hP.sz];omega) Cg⟩⟩⟩
 exact⟨by rw[List.length_map,Array.length_toList,hP.sz,sX];omega,_,c',jd rv Ca,rz⟩
theorem kU{K:W.Frag}{F:Hp}:∀{ds:List D}{vs:List V}{ks:List (List Int)},eZ ds=some ks→DenL K F ds vs→∀k∈ks,k.length≤lim
 |[],_,_,e,_=>by cases e;exact fun k hk=>by cases hk
 |d::ds,_,_,e,⟨v,r,h1,h2,h3⟩=>by
  unfold eZ at e
  split at e
  ·rename_i k ks e1 e2
   cases e
   intro k' tT
   rcases List.mem_cons.mp tT with rfl | tT
   ·cases d with
    |tup es=>
     obtain⟨a,ws,rfl,k2,k3,k4⟩:=h2
     have:=j4 e1 k3
     have hl:=k3.len
     rw[this,List.length_map] at hl
     omega
    |_=>cases e1
   ·exact kU e2 h3 k' tT
  ·cases e
theorem ja:∀l:List (List Int),(sortI l).length=l.length
 |[]=>rfl
 |k::r=>by
  have ins:∀(k:List Int) (l:List (List Int)),(insI k l).length=l.length+1:=by
   intro k l
   induction l with
   |nil=>rfl
   |cons x l ih=>
    unfold insI
    split
    ·rfl
    ·rw[List.length_cons,ih,List.length_cons]
  unfold sortI
  rw[ins,ja r,List.length_cons]
theorem F9(hg:Gl X "sorted")(hm:X.mg "sorted"=none)(hb:bootBuiltins "sorted"=some (.builtin "sorted"))(ha:mQ X Xw [e] δs)(he:starEach [e] X.env=[(false,eval e X.env)]:=by rfl):PD X Xw (.Call (.Name "sorted" p) [e] [] pos) (dA DW δs):=
 ei zV (fun Xw F H vs ds Q s h w=>by
  unfold DW at w
  split at w
  ·rename_i ds
   obtain⟨v,rfl,h1⟩:=h.one
   obtain⟨a,ws,rfl,h2,h3,h4⟩:=h1
   split at w
   ·rename_i ks CM
    split at w
    ·rename_i hok
     obtain⟨r1,r2⟩:=kT s CM h3
     have Nm:=kU CM h3
     refine⟨a,ws,ks,rfl,SqL.of (s _ _ h2),r1,hok,fun q is hq hi hl hs=>WP.fin w (Ext.lay s hq) ⟨q,_,rfl,aD,DenL.mono (Ext.lay s hq).ff ?_,?_⟩⟩
     ·have:=gj r2 hi
      rw[hs] at this
      exact iw this fun k hk=>Nm k (cY.mp hk)
     ·rw[List.length_map,ja,←eo r1,←h3.len]
      exact h4
    ·exact w.elim
   ·exact w.elim
  ·exact w.elim) hg hm hb ha (by decide) (by decide) he rfl
end
def mw(k:List Int):List Key:=k.map Sum.inl
def IS:List V→Hp→VK→Prop:=fun xs H Q=>∃p au ks,xs=[.ref p]∧Rd H p (.dT au)∧au.map (·.1)=ks.map mw∧cR ks=true∧∀(q:Addr) (ws:List V),H q=none→bW H ws (sortI ks)→Q (.ref q) (upd H q (.lst ws))
theorem kX{H:Hp}:∀{au:List (List Key×V)}{xs:List (List Key×Addr×Value)}{ks:List (List Int)},Paired (fun (p:List Key×V) (q:List Key×Addr×Value)=>p.1=q.1∧H q.2.1=some (.tup (p.1.map kV))∧RelV p.2 q.2.2) au xs→
 au.map (·.1)=ks.map mw→bW H (xs.map fun x=>V.ref x.2.1) ks
 |_,_,[], .nil,_=> .nil
 |_,_,_::_, .nil,e=>by simp at e
 |_,_,[], .cons h t,e=>by simp at e
 |_,_,k::ks, .cons h t,e=>by
  rw[List.map_cons,List.map_cons] at e
  injection e with e1 e2
  refine .cons ⟨_,rfl,?_⟩ (kX t e2)
  have hk:(mw k).map kV=k.map V.int:=by unfold mw;rw[List.map_map];rfl
  rw[h.2.1,e1,hk]
section
variable{X:Cx}{Xw:Nat→Hp→Prop}{e:Expr}{δs:DA}{pos p:Pos}
theorem yx(hc:X.calm=true):CallR X (.builtin "sorted") IS:=by
 intro pins s σ H xs us Q I r h
 obtain⟨a,au,ks,rfl,hH,vR,hk,q⟩:=h
 obtain⟨u,rfl,r1⟩:=r.one
 cases (show u=_ from r1)
 obtain⟨z,lo,xs,rel,o,es,ep,g1,g2,g3,g4,g5⟩:=(show ObjOk X.prog X.w H s.heap a (.dT au) from hH.ok I.hok)
 unfold cR at hk
 rw[Bool.and_eq_true,Bool.and_eq_true] at hk
 have hd:ks.Nodup:=of_decide_eq_true hk.1.1
 have rm:ks.length<64:=of_decide_eq_true hk.1.2
 have fm:∀k∈ks,k≠[]:=fun k tT z=>by have:=List.all_eq_true.mp hk.2 k tT;rw[z] at this;cases this
 have hr:=kX rel vR
 have vq:=eo hr
 rw[List.length_map] at vq
 have E_:es.size=xs.length:=by rw[←Array.length_toList,g4,List.length_map]
 have sX:sizeLine=16777216:=sizeLine_eq
 refine Calls.call_function_entry kind_sorted plain_sorted entry_sorted (args_sorted1 _) ?_
 unfold Builtin.«sorted»
 refine wpAny_bind (m:=checkCount "sorted" 1 1 _) (wpAny_pure (wpAny_bind (PySem.W.kdu_collect (A:=X.A.in1) (u0 lo g2 g3) (I.ok.hd hc) g1 (by rw[E_,sX];omega) fun h1 tk acc tY kS=>?_)))
 have Ek:acc.toList.length=xs.length:=by rw[Array.length_toList,←E_];exact kS.1
 have I1:Inv X pins σ H {s with heap:=h1,toks:=tk}:=I.kept (t':=tk) fun b ob e=>tY b ob e
 have rv:Vals (xs.map fun x=>V.ref x.2.1) acc.toList:=by
  have ext:∀{vs:List V}{us:List Value},vs.length=us.length→(∀(i:Nat) (v:V) (u:Value),vs[i]? =some v→us[i]? =some u→RelV v u)→Vals vs us:=by
   intro vs
   induction vs with
   |nil=>intro us h _;cases us with | nil=>exact .nil | cons _ _=>simp at h
   |cons v vs ih=>
    intro us h hh
    cases us with
    |nil=>simp at h
    |cons u us=>exact .cons (hh 0 v u rfl rfl) (ih (by simpa using h) fun i v u h1 h2=>hh (i+1) v u h1 h2)
  refine ext (by rw[List.length_map,Ek]) fun i v u e1 e2=>?_
  rw[Array.getElem?_toList] at e2
  obtain⟨en,q1,q2⟩:=kS.2 i u e2
  rw[←Array.getElem?_toList,g4,List.getElem?_map] at q1
  rw[List.getElem?_map] at e1
  cases w:xs[i]? with
  |none=>rw[w] at e1;cases e1
  |some x=>
   rw[w] at e1 q1
   cases e1
   cases q1
   exact q2
 have ht:=i_ I1 hr rv fm
 refine wpAny_bind (wpAny_newList ?_ (by rw[sX];omega))
 have Ce:(h1.push (seqObj "list" acc.toList.toArray 0)).get? h1.objs.size=some (seqObj "list" acc.toList.toArray 0):=Heap.get?_push_size _ rfl
 refine wpAny_bind (wpAny_holding (wpAny_call_entry slot_list_sort ⟨_,Ce,rfl⟩ entry_list_sort (lz (s:={s with heap:=h1.push (seqObj "list" acc.toList.toArray 0),toks:=tk}) Ce
  (ht.keep (a:=h1.objs.size) (fun b o _ e=>Heap.get?_push_of_some _ e) (fun o e=>absurd (Heap.lt_size e) (Nat.lt_irrefl _))) hd (by omega) fun P h' c' hP hR rz tU=>?_) (args_list_sort _)))
 have Ca:∀i∈P.toList,i<(xs.map fun x=>V.ref x.2.1).length:=fun i hi=>by
  obtain⟨j,hj,rfl⟩:=List.mem_iff_getElem.mp hi
  have h':j<P.size:=by rw[Array.length_toList] at hj;exact hj
  have:=hP.lt j (by rw[hP.sz] at h';exact h')
  rw[dw,Array.getElem?_eq_getElem h'] at this
  have e:P.toList[j]=P[j]:=by simp
  rw[e,List.length_map]
  have:P[j]<acc.toList.length:=this
  omega
 have Ht:PN ks.length P:=by rw[←vq,←Ek];exact hP
 have Hu:Ri (fun i j=>dz (ks.getD i []) (ks.getD j [])) P ks.length:=by rw[←vq,←Ek];exact hR
 have Cg:=lA hd Ht Hu
 have HY:=gj hr Ca
 rw[Cg] at HY
 refine⟨_,rfl,wpAny_pure ⟨_,rfl,⟨.ref h1.objs.size,_,I1.laid (a:=h1.objs.size) (t':=tk) (o:= .lst (P.toList.map fun i=>(xs.map fun x=>V.ref x.2.1).getD i .non)) (fun b ob e=>tU b ob (Nat.ne_of_lt (Heap.lt_size e)) (Heap.get?_push_of_some _ e)) (Nat.le_refl _) ?_,rfl,q _ _ (I1.hok.fresh (Nat.le_refl _)) HY⟩⟩⟩
 exact⟨by rw[List.length_map,Array.length_toList,hP.sz,sX];omega,_,c',jd rv Ca,rz⟩
theorem qI{F F':Hp}(e:Same F F'):∀{ws:List V}{ks:List (List Int)},bW F ws ks→bW F' ws ks
 |_,_, .nil=> .nil
 |_,_, .cons ⟨b,q1,q2⟩ t=> .cons ⟨b,q1,e _ _ q2⟩ (qI e t)
theorem kA{F H:Hp}(hs:Same F H):∀{ws:List V}{ks:List (List Int)},bW H ws ks→∃F',Ext F H F' H∧bW F' ws ks
 |_,_, .nil=>⟨F,Ext.refl hs, .nil⟩
 |_,_, .cons h t=>by
  obtain⟨a,rfl,h⟩:=h
  obtain⟨F1,e1,r1⟩:=kA hs t
  have e2:=Ext.tup (F:=F1) e1.fh h
  refine⟨_,e1.trans e2, .cons ⟨a,rfl,aD⟩ ?_⟩
  exact qI e2.ff r1
def qf:List Key→Option (List Int)
 |[]=>some []
 | .inl i::r=>(qf r).map (i:: ·)
 |_=>none
def dS:List (List Key)→Option (List (List Int))
 |[]=>some []
 |k::r=>match qf k,dS r with
  |some x,some xs=>some (x::xs)
  |_,_=>none
theorem tW:∀{k:List Key}{x:List Int},qf k=some x→k=mw x
 |[],_,e=>by cases e;rfl
 | .inl i::r,_,e=>by
   unfold qf at e
   cases q:qf r with
   |none=>rw[q] at e;cases e
   |some y=>rw[q] at e;cases e;rw[tW q];rfl
 | .inr _::r,_,e=>by cases e
theorem iX:∀{kk:List (List Key)}{ks:List (List Int)},dS kk=some ks→kk=ks.map mw
 |[],_,e=>by cases e;rfl
 |k::r,_,e=>by
  unfold dS at e
  split at e
  ·rename_i x xs e1 e2
   cases e
   rw[List.map_cons,←tW e1,←iX e2]
  ·cases e
def iJ:List D→M D
 |[.dct kk ds]=>match dS kk with
  |some ks=>if cR ks&&ks.all (fun k=>decide (k.length≤lim)) then M.ret (.lst ((sortI ks).map tupI)) else M.stuck
  |none=>M.stuck
 |_=>M.stuck
theorem gZ{α β:Type}:∀{a:List α}{b:List β},a.length=b.length→(a.zip b).map (·.1)=a
 |[],[],_=>rfl
 |x::a,y::b,h=>by rw[List.zip_cons_cons,List.map_cons,gZ (by simpa using h)]
 |[],_::_,h=>by simp at h
 |_::_,[],h=>by simp at h
theorem xR(hc:X.calm=true)(hg:Gl X "sorted")(hm:X.mg "sorted"=none)(hb:bootBuiltins "sorted"=some (.builtin "sorted"))(ha:mQ X Xw [e] δs)(he:starEach [e] X.env=[(false,eval e X.env)]:=by rfl):PD X Xw (.Call (.Name "sorted" p) [e] [] pos) (dA iJ δs):=
 ei (yx hc) (fun Xw F H vs ds Q s h w=>by
  unfold iJ at w
  split at w
  ·rename_i kk ds
   obtain⟨v,rfl,h1⟩:=h.one
   obtain⟨a,ob,ws,rfl,h2,h3,h4,h5⟩:=h1
   split at w
   ·rename_i ks CM
    split at w
    ·rename_i hok
     rw[Bool.and_eq_true] at hok
     have hl:∀k∈ks,k.length≤lim:=fun k hk=>of_decide_eq_true (List.all_eq_true.mp hok.2 k hk)
     have rm:ks.length<64:=by
      have:=hok.1
      unfold cR at this
      rw[Bool.and_eq_true,Bool.and_eq_true] at this
      exact of_decide_eq_true this.1.2
     refine⟨a,_,ks,rfl, .inr ⟨ob,s _ _ h2⟩,by rw[gZ (by rw[h4];exact h3.len),iX CM],hok.1,fun q us hq hr=>?_⟩
     obtain⟨F1,e1,r1⟩:=kA s hr
     have e2:=Ext.lay (o:= .lst us) e1.fh hq
     exact WP.fin w (e1.trans e2) ⟨q,_,rfl,aD,DenL.mono e2.ff (iw r1 fun k hk=>hl k (cY.mp hk)),by rw[List.length_map,ja];unfold lim;omega⟩
    ·exact w.elim
   ·exact w.elim
  ·exact w.elim) hg hm hb ha (by decide) (by decide) he rfl
end
end L3
namespace L3
open PySem PySem.Spec L2
open PyProof.Rows hiding St
def orM{α:Type}(a b:M α):M α:=match a with
 |none=>b
 |some r=>some r
def Av(a b:DA):DA:=fun ρ=>orM (a ρ) (b ρ)
section
variable{X:Cx}{Xw:Nat→Hp→Prop}{e tg:Expr}{es:List Expr}{δ δ':DE}{δi δi' δs:DA}{τ:DT}
theorem xS(h:yi X Xw tg e δi)(h':yi X Xw tg e δi'):yi X Xw tg e (Av δi δi'):=fun pins s σ H Q I ⟨F,ρ,S,w⟩=>by
 unfold Av orM at w
 cases q:δi ρ with
 |none=>rw[q] at w;exact h' pins s σ H Q I ⟨F,ρ,S,w⟩
 |some r=>rw[q] at w;exact h pins s σ H Q I ⟨F,ρ,S,by rw[q];exact w⟩
theorem i8{st:Stmt}:jR X Xw st (fun _=>M.stuck):=fun F₀ H₀ pins s σ H D I ⟨F,ρ,S,w⟩=>w.elim
end
def fgt:List Nat→aY→aY
 |[],ρ=>ρ
 |i::is,ρ=>fgt is (ρ.set i none)
def Ip(f:aY→aY):Out→M Out
 | .nx ρ=>M.ret (.nx (f ρ))
 | .rt d=>M.ret (.rt d)
def cB(is:List Nat)(τ:DS):DS:=fun ρ=>τ ρ>>=Ip (fgt is)
theorem StOk.fgt1{K:W.Frag}{F₀ H₀ F H:Hp}{σ:St}{ρ:aY}(s:StOk K F₀ H₀ F H σ ρ)(i:Nat):StOk K F₀ H₀ F H σ (ρ.set i none):=by
 have get:∀(j:Nat) (sl:Sl),(ρ.set i none)[j]? =some (some sl)→ρ[j]? =some (some sl):=fun j sl e=>by
  by_cases hj:j=i
  ·subst hj
   by_cases hl:j<ρ.length
   ·rw[List.getElem?_set_self hl] at e;cases e
   ·rw[List.getElem?_eq_none (by simpa using hl)] at e;cases e
  ·rw[List.getElem?_set_ne (Ne.symm hj)] at e;exact e
 exact⟨s.ext,⟨s.st.fh,fun j sl e=>s.st.den j sl (get j sl e)⟩,by simp[s.len],fun j c a e e'=>s.own j c a (get j _ e) e',fun j k c c' a e1 e2 e3 e4=>s.sep j k c c' a (get j _ e1) (get k _ e2) e3 e4⟩
theorem StOk.fgt{K:W.Frag}{F₀ H₀ F H:Hp}{σ:St}:∀(is:List Nat) {ρ:aY},StOk K F₀ H₀ F H σ ρ→StOk K F₀ H₀ F H σ (L3.fgt is ρ)
 |[],_,s=>s
 |i::is,_,s=>StOk.fgt is (s.fgt1 i)
theorem WPS.fgt{K:W.Frag}{Xw:Nat→Hp→Prop}{F₀ H₀:Hp}{is:List Nat}{m:M Out}{Dn:Ends}(w:WPS K Xw F₀ H₀ (m>>=Ip (L3.fgt is)) Dn):WPS K Xw F₀ H₀ m Dn:=by
 match m,w with
 |none,w=>exact w
 |some (.ok (.nx ρ)),w=>exact fun σ F H s=>w σ F H (s.fgt is)
 |some (.ok (.rt d)),w=>exact w
 |some (.ex n),w=>exact w
section
variable{X:Cx}{Xw:Nat→Hp→Prop}{st:Stmt}{Mj:List Stmt}{τ:DS}{is:List Nat}
theorem bu(h:PSDs X Xw Mj τ):PSDs X Xw Mj (cB is τ):=fun F₀ H₀=>PSs.weak (h F₀ H₀) fun D σ H ⟨F,ρ,s,w⟩=>⟨F,ρ,s,WPS.fgt w⟩
end
def MJ:Option Sl→Option Sl
 |some (.ow c)=>some (.fz c.d)
 |x=>x
def xk(ρ:aY):aY:=ρ.map MJ
def refA(h:Heap)(P:Addr→Prop)[DecidablePred P](H:Hp):Hp:=fun b=>if P b then(H b).map (mn ((h.get? b).getD {cls:= .none,data:= .fields #[]})) else H b
theorem vO(ob:Obj)(o:HO):mn ob o=o∨((∃k,o= .dT k)∨∃k,o= .dK k)∧mn ob o= .frz ob o:=by
 cases o<;>first | exact .inl rfl | exact .inr ⟨.inl ⟨_,rfl⟩,rfl⟩ | exact .inr ⟨.inr ⟨_,rfl⟩,rfl⟩
section
variable{X:Cx}{pins:List (Addr×Obj)}{σ:St}{H:Hp}{s:Shared}{P:Addr→Prop}[DecidablePred P]
theorem gi{h:Heap}{b:Addr}(e:H b=none):refA h P H b=none:=by
 unfold refA;split
 ·rw[e];rfl
 ·exact e
theorem qH{h:Heap}{b:Addr}{o:HO}(e:H b=some o):refA h P H b=some o∨((∃k,o= .dT k)∨∃k,o= .dK k)∧P b∧refA h P H b=some (.frz ((h.get? b).getD {cls:= .none,data:= .fields #[]}) o):=by
 unfold refA;split
 ·rename_i hp
  rw[e]
  rcases vO ((h.get? b).getD {cls:= .none,data:= .fields #[]}) o with q | ⟨q1,q2⟩
  ·exact .inl (by show some _=_;rw[q])
  ·exact .inr ⟨q1,hp,by show some _=_;rw[q2]⟩
 ·exact .inl e
theorem gh{h:Heap}{b:Addr}{o:HO}(e:H b=some o)(n1:∀k,o≠ .dT k)(n2:∀k,o≠ .dK k):refA h P H b=some o:=by
 rcases qH (P:=P) (h:=h) e with q | ⟨⟨k,q⟩ | ⟨k,q⟩,_⟩
 ·exact q
 ·exact absurd q (n1 k)
 ·exact absurd q (n2 k)
theorem Inv.refA(I:Inv X pins σ H s):Inv X pins σ (L3.refA s.heap P H) s:=by
 have obj:∀b o,H b=some o→((∃k,o=HO.dT k)∨∃k,o= .dK k)→∃ob,s.heap.get? b=some ob:=fun b o e hu=>by
  have hk:=I.hok b o e
  rcases hu with⟨k,h1⟩ | ⟨k,h1⟩
  ·subst h1;obtain⟨_,_,_,_,ob,_,_,q,_⟩:=hk;exact⟨ob,q⟩
  ·subst h1;obtain⟨_,_,_,_,ob,_,_,q,_⟩:=hk;exact⟨ob,q⟩
 refine⟨I.ok,I.os,I.bare,⟨I.base.keep,I.base.slot,fun b q h1 h2 h3=>gi (I.base.free b q h1 h2 h3),I.base.there,fun b xs q=>gh (I.base.tups b xs q) (fun _ z=>nomatch z) (fun _ z=>nomatch z),
  fun b q1 v q=>gh (I.base.frzs b q1 v q) (fun _ z=>nomatch z) (fun _ z=>nomatch z),fun b ps q=>?_⟩,I.loc,I.cell,gi I.free,fun x c q=>gi (I.freeC x c q),fun p hp=>?_,fun b v q=>?_,I.len⟩
 ·obtain⟨m,this⟩:=I.base.tbls b ps q
  exact⟨m,gh this (fun _ z=>nomatch z) (fun _ z=>nomatch z)⟩
 ·obtain⟨h1,h2,h3⟩:=I.pin p hp
  exact⟨h1,gi h2,h3⟩
 ·have st:∀{c:Addr}{v:HO},ObjOk X.prog X.w H s.heap c v→ObjOk X.prog X.w (L3.refA s.heap P H) s.heap c v:=fun {c v} k=>k.stay (fun _ _ _ q=>q)
   (fun c' q=>gh q (fun _ z=>nomatch z) (fun _ z=>nomatch z)) fun c' xs q=>gh q (fun _ z=>nomatch z) (fun _ z=>nomatch z)
  cases e:H b with
  |none=>rw[gi e] at q;cases q
  |some o=>
   rcases qH (P:=P) (h:=s.heap) e with z | ⟨hu,hp,z⟩
   ·rw[z] at q;cases q;exact st (I.hok b _ e)
   ·rw[z] at q
    cases q
    obtain⟨ob,HP⟩:=obj b o e hu
    rw[HP]
    exact⟨HP,st (I.hok b o e)⟩
def unA(P:Addr→Prop)[DecidablePred P](H:Hp):Hp:=fun b=>if P b then(match H b with | some (.frz _ u)=>some u | x=>x) else H b
theorem Inv.unA(I:Inv X pins σ H s)(hP:∀b,P b→∀o u,X.H₀ b≠some (.frz o u))(hQ:∀b,P b→∀o u,H b=some (.frz o u)→(∃k,u= .dT k)∨∃k,u= .dK k):Inv X pins σ (L3.unA P H) s:=by
 have non:∀b,H b=none→L3.unA P H b=none:=fun b e=>by unfold L3.unA;rw[e];split<;>rfl
 have keep:∀b o,H b=some o→(∀q u,o≠ .frz q u)→L3.unA P H b=some o:=fun b o e n=>by
  unfold L3.unA;split
  ·rw[e];cases o<;>first | rfl | exact absurd rfl (n _ _)
  ·exact e
 refine⟨I.ok,I.os,I.bare,⟨I.base.keep,I.base.slot,fun b q h1 h2 h3=>non b (I.base.free b q h1 h2 h3),I.base.there,fun b xs q=>keep b _ (I.base.tups b xs q) (fun _ _ z=>nomatch z),
  fun b q1 v q=>?_,fun b ps q=>?_⟩,I.loc,I.cell,non _ I.free,fun x c q=>non _ (I.freeC x c q),fun p hp=>?_,fun b v q=>?_,I.len⟩
 ·have:=I.base.frzs b q1 v q
  unfold L3.unA
  rw[if_neg (fun hp=>hP b hp q1 v q)]
  exact this
 ·obtain⟨m,this⟩:=I.base.tbls b ps q
  exact⟨m,keep b _ this (fun _ _ z=>nomatch z)⟩
 ·obtain⟨h1,h2,h3⟩:=I.pin p hp
  exact⟨h1,non _ h2,h3⟩
 ·have st:∀{c:Addr}{v:HO},ObjOk X.prog X.w H s.heap c v→ObjOk X.prog X.w (L3.unA P H) s.heap c v:=fun {c v} k=>k.stay (fun _ _ _ q=>q)
   (fun c' q=>keep c' _ q (fun _ _ z=>nomatch z)) fun c' xs q=>keep c' _ q (fun _ _ z=>nomatch z)
  cases e:H b with
  |none=>rw[non b e] at q;cases q
  |some o=>
   have ko:=I.hok b o e
   by_cases hf:∃ob u,o= .frz ob u
   ·obtain⟨ob,u,rfl⟩:=hf
    unfold L3.unA at q
    split at q
    ·rw[e] at q
     cases q
     obtain⟨_,k2⟩:=ko
     exact st k2
    ·rw[e] at q;cases q;exact st ko
   ·rw[keep b o e (fun q u z=>hf ⟨q,u,z⟩)] at q
    cases q
    exact st ko
end
mutual
def xh:D→Bool
 | .non=>true
 | .bl _=>true
 | .int _=>true
 | .str _=>true
 | .tup ds=>xi ds
 | .raw _=>false
 | .exc _=>false
 | .scr _=>false
 | .lst _=>false
 | .dct _ _=>false
 | .dci _ _=>false
def xi:List D→Bool
 |[]=>true
 |d::ds=>xh d&&xi ds
end
def nB(d:D):M D:=if xh d then M.ret d else M.stuck
def OwnAt(σ:St)(ρ:aY)(b:Addr):Prop:=∃(i:Nat) (c:C),ρ[i]? =some (some (Sl.ow c))∧σ[i]? =some (some (V.ref b))
section
variable{K:W.Frag}{F H F' H':Hp}{σ:St}{ρ:aY}{h:Heap}{b:Addr}
theorem OwnAt.obj(S:StE K F H σ ρ)(p:OwnAt σ ρ b):F b=none∧∃o,H b=some o∧((∃x,o= .lst x)∨(∃x,o= .dT x)∨∃x,o= .dK x):=by
 obtain⟨i,c,h1,h2⟩:=p
 obtain⟨v,h3,a,o,rfl,h4,h5,h6⟩:=S.den i _ h1
 rw[h3] at h2
 cases h2
 refine⟨h5,o,h4,?_⟩
 cases c with
 |lst ds=>obtain⟨vs,rfl,_⟩:=h6;exact .inl ⟨_,rfl⟩
 |dct ks ds=>obtain⟨vs,rfl,_⟩:=h6;exact .inr (.inl ⟨_,rfl⟩)
 |dci ks ds=>obtain⟨vs,rfl,_⟩:=h6;exact .inr (.inr ⟨_,rfl⟩)
open Classical in
noncomputable def fA(σ:St)(ρ:aY)(H1 F:Hp):Hp:=fun b=>if OwnAt σ ρ b then H1 b else F b
open Classical in
theorem xg(S:StE K F H σ ρ){H1:Hp}:Same F (fA σ ρ H1 F):=fun b u e=>by
 unfold fA
 rw[if_neg (fun p=>by rw[(OwnAt.obj S p).1] at e;cases e)]
 exact e
open Classical in
theorem Af(S:StE K F H σ ρ):StE K (fA σ ρ (refA h (OwnAt σ ρ) H) F) (refA h (OwnAt σ ρ) H) σ (xk ρ):=by
 refine⟨fun b u e=>?_,fun j sl e=>?_⟩
 ·unfold fA at e
  split at e
  ·exact e
  ·rename_i hp
   unfold refA
   rw[if_neg hp]
   exact S.fh b u e
 ·unfold xk at e
  rw[List.getElem?_map] at e
  cases q:ρ[j]? with
  |none=>rw[q] at e;cases e
  |some x=>
   rw[q] at e
   cases x with
   |none=>cases e
   |some y=>
    cases y with
    |fz d=>
     cases e
     obtain⟨v,h1,h2⟩:=S.den j _ q
     exact⟨v,h1,Den.mono (xg S) h2⟩
    |ow c=>
     cases e
     obtain⟨v,h1,a,o,rfl,h4,h5,h6⟩:=S.den j _ q
     refine⟨_,h1,DenC.den (ob:=(h.get? a).getD {cls:= .none,data:= .fields #[]}) h6 (xg S) ?_⟩
     have hp:OwnAt σ ρ a:=⟨j,c,q,h1⟩
     unfold fA refA
     rw[if_pos hp,if_pos hp,h4]
     rfl
open Classical in
theorem tO(S:StE K F H σ ρ)(E:Ext (fA σ ρ (refA h (OwnAt σ ρ) H) F) (refA h (OwnAt σ ρ) H) F' H'):
 Ext F H (fun b=>if OwnAt σ ρ b then none else F' b) (unA (OwnAt σ ρ) H')∧∀b,OwnAt σ ρ b→∀o u,H' b=some (.frz o u)→(∃k,u= .dT k)∨∃k,u= .dK k:=by
 have Lm:∀b,OwnAt σ ρ b→∃o,H b=some o∧H' b=some (mn ((h.get? b).getD {cls:= .none,data:= .fields #[]}) o)∧((∃x,o= .lst x)∨(∃x,o= .dT x)∨∃x,o= .dK x):=fun b hp=>by
  obtain⟨_,o,h1,h2⟩:=OwnAt.obj S hp
  refine⟨o,h1,E.hh b _ ?_,h2⟩
  unfold refA
  rw[if_pos hp,h1]
  rfl
 refine⟨⟨fun b o e=>?_,fun b u e=>?_,fun b u e=>?_,fun b hb=>?_⟩,fun b hp o u e=>?_⟩
 ·unfold unA
  by_cases hp:OwnAt σ ρ b
  ·obtain⟨o',h1,h2,h3⟩:=Lm b hp
   rw[e] at h1
   cases h1
   rw[if_pos hp,h2]
   rcases h3 with⟨x,rfl⟩ | ⟨x,rfl⟩ | ⟨x,rfl⟩<;>rfl
  ·rw[if_neg hp]
   refine E.hh b o ?_
   unfold refA
   rw[if_neg hp]
   exact e
 ·have hp:¬OwnAt σ ρ b:=fun p=>by rw[(OwnAt.obj S p).1] at e;cases e
  show (if OwnAt σ ρ b then none else F' b)=_
  rw[if_neg hp]
  refine E.ff b u ?_
  unfold fA
  rw[if_neg hp]
  exact e
 ·have e:(if OwnAt σ ρ b then none else F' b)=some u:=e
  split at e
  ·cases e
  ·rename_i hp
   unfold unA
   rw[if_neg hp]
   exact E.fh b u e
 ·show (if OwnAt σ ρ b then none else F' b)=F b∨_
  by_cases hp:OwnAt σ ρ b
  ·rw[if_pos hp]
   exact .inl (OwnAt.obj S hp).1.symm
  ·rw[if_neg hp]
   have e1:refA h (OwnAt σ ρ) H b=H b:=by unfold refA;rw[if_neg hp]
   have e2:fA σ ρ (refA h (OwnAt σ ρ) H) F b=F b:=by unfold fA;rw[if_neg hp]
   rcases E.new b (by rw[e1];exact hb) with q | q
   ·exact .inl (q.trans e2)
   ·rw[e1] at q;exact .inr q
 ·obtain⟨o',h1,h2,h3⟩:=Lm b hp
  rw[e] at h2
  rcases h3 with⟨x,rfl⟩ | ⟨x,rfl⟩ | ⟨x,rfl⟩
  ·cases h2
  ·cases h2;exact .inl ⟨_,rfl⟩
  ·cases h2;exact .inr ⟨_,rfl⟩
open Classical in
mutual
theorem tK(S:StE K F H σ ρ)(E:Ext (fA σ ρ (refA h (OwnAt σ ρ) H) F) (refA h (OwnAt σ ρ) H) F' H'):∀{d:D}{v:V},xh d=true→Den K F' d v→Den K (fun b=>if OwnAt σ ρ b then none else F' b) d v
 | .non,_,_,q=>q
 | .bl _,_,_,q=>q
 | .int _,_,_,q=>q
 | .str _,_,_,q=>q
 | .tup ds,_,f,⟨a,vs,h1,h2,h3,h4⟩=>by
   refine⟨a,vs,h1,?_,p6 S E ?_ h3,h4⟩
   ·show (if OwnAt σ ρ a then none else F' a)=_
    rw[if_neg,h2]
    intro hp
    obtain⟨_,o,k1,k2⟩:=OwnAt.obj S hp
    have k3:fA σ ρ (refA h (OwnAt σ ρ) H) F a=some (mn ((h.get? a).getD {cls:= .none,data:= .fields #[]}) o):=by
     unfold fA refA
     rw[if_pos hp,if_pos hp,k1]
     rfl
    have k4:=E.ff a _ k3
    rw[h2] at k4
    rcases k2 with⟨x,rfl⟩ | ⟨x,rfl⟩ | ⟨x,rfl⟩<;>cases k4
   ·exact f
 | .raw _,_,f,_=>by cases f
 | .exc _,_,f,_=>by cases f
 | .scr _,_,f,_=>by cases f
 | .lst _,_,f,_=>by cases f
 | .dct _ _,_,f,_=>by cases f
 | .dci _ _,_,f,_=>by cases f
theorem p6(S:StE K F H σ ρ)(E:Ext (fA σ ρ (refA h (OwnAt σ ρ) H) F) (refA h (OwnAt σ ρ) H) F' H'):∀{ds:List D}{vs:List V},xi ds=true→DenL K F' ds vs→DenL K (fun b=>if OwnAt σ ρ b then none else F' b) ds vs
 |[],_,_,q=>q
 |d::ds,_,f,⟨v,r,h1,h2,h3⟩=>by
  unfold xi at f
  rw[Bool.and_eq_true] at f
  exact⟨v,r,h1,tK S E f.1 h2,p6 S E f.2 h3⟩
end
end
section
variable{X:Cx}{Xw:Nat→Hp→Prop}{e:Expr}{δ:DE}{τ:DT}
theorem qx{pins:List (Addr×Obj)}{s:Shared}{F H:Hp}{σ:St}{ρ:aY}(I:Inv X pins σ H s)(S:StE X.K F H σ ρ)(b:Addr)(p:OwnAt σ ρ b)(o:Obj)(u:HO):X.H₀ b≠some (.frz o u):=fun z=>by
 obtain⟨_,o',k1,k2⟩:=OwnAt.obj S p
 have:=I.base.frzs b o u z
 rw[k1] at this
 rcases k2 with⟨x,rfl⟩ | ⟨x,rfl⟩ | ⟨x,rfl⟩<;>cases this
theorem ot{α:Type}(m:M α):noex m=M.stuck∨∃a,m=M.ret a∧noex m=M.ret a:=by
 rcases m.cs with h | ⟨n,h⟩ | ⟨a,h⟩
 ·subst h;exact .inl rfl
 ·subst h;exact .inl rfl
 ·subst h;exact .inr ⟨a,rfl,rfl⟩
theorem se(h:mm X Xw e τ):mm X Xw e (fun ρ=>noex (τ (xk ρ))):=fun pins s σ H Q I ⟨F,ρ,S,w⟩=>by
 classical
 rcases ot (τ (xk ρ)) with q | ⟨b,q,q2⟩
 ·have w:WPB Xw F H (noex (τ (xk ρ))) Q:=w
  rw[q] at w
  exact w.elim
 ·have w:WPB Xw F H (noex (τ (xk ρ))) Q:=w
  rw[q2] at w
  refine cg (h pins s σ _ (fun b' H'=>Q b' (unA (OwnAt σ ρ) H')∧∀c,OwnAt σ ρ c→∀o u,H' c=some (.frz o u)→(∃k,u= .dT k)∨∃k,u= .dK k) (Inv.refA (P:=OwnAt σ ρ) I) ⟨_,_,Af (h:=s.heap) S,?_⟩) fun b' s' ⟨H',I',q1,q3⟩=>⟨_,Inv.unA I' (qx I S) q3,q1⟩
  rw[q]
  intro H' F' E
  obtain⟨E1,q3⟩:=tO S E
  exact⟨w _ _ E1,q3⟩
theorem Iy(h:PD X Xw e δ):PD X Xw e (fun ρ=>noex (δ (xk ρ))>>=nB):=fun pins s σ H Q I ⟨F,ρ,S,w⟩=>by
 classical
 rcases ot (δ (xk ρ)) with q | ⟨d,q,q2⟩
 ·have w:WP X.K Xw F H (noex (δ (xk ρ))>>=nB) Q:=w
  rw[q] at w
  exact w.elim
 ·have w:WP X.K Xw F H (noex (δ (xk ρ))>>=nB) Q:=w
  rw[q2,ao] at w
  unfold nB at w
  split at w
  ·rename_i hf
   refine cg (h pins s σ _ (fun v H'=>Q v (unA (OwnAt σ ρ) H')∧∀c,OwnAt σ ρ c→∀o u,H' c=some (.frz o u)→(∃k,u= .dT k)∨∃k,u= .dK k) (Inv.refA (P:=OwnAt σ ρ) I) ⟨_,_,Af (h:=s.heap) S,?_⟩) fun b' s' ⟨v,H',I',rv,q1,q3⟩=>⟨v,_,Inv.unA I' (qx I S) q3,rv,q1⟩
   rw[q]
   intro v H' F' E dn
   obtain⟨E1,q3⟩:=tO S E
   exact⟨w _ _ _ E1 (tK S E hf dn),q3⟩
  ·exact w.elim
end
abbrev DF:=aY→M C
def WPF(K:W.Frag)(Xw:Nat→Hp→Prop)(F H:Hp)(m:M C)(Q:VK):Prop:=
 match m with
 |none=>False
 |some (.ok c)=>∀a o H' F',Ext F H F' H'→H' a=some o→F' a=none→H a=none→DenC K F' c o→Q (.ref a) H'
 |some (.ex n)=>∀F' H',Ext F H F' H'→Xw n H'
def N_(K:W.Frag)(Xw:Nat→Hp→Prop)(δ:DF):TE:=fun σ H Q=>∃F ρ,StE K F H σ ρ∧WPF K Xw F H (δ ρ) Q
def GQ(X:Cx)(Xw:Nat→Hp→Prop)(e:Expr)(δ:DF):Prop:=PE X e (N_ X.K Xw δ)
def ya(i:Nat)(δ:DF):DS:=fun ρ=>δ ρ>>=fun c=>M.ret (.nx (ρ.set i (some (.ow c))))
theorem StOk.setFresh{K:W.Frag}{F₀ H₀ F H F' H':Hp}{σ:St}{ρ:aY}(s:StOk K F₀ H₀ F H σ ρ){i:Nat}{a:Addr}{o:HO}{c₀:C}(E:Ext F H F' H')(ho:H' a=some o)(nF:F' a=none)(n:H a=none)(h:DenC K F' c₀ o):
 StOk K F₀ H₀ F' H' (σ.set i (some (.ref a))) (ρ.set i (some (.ow c₀))):=by
 have hle:=s.len
 have get:∀(j:Nat) (sl:Sl),(ρ.set i (some (.ow c₀)))[j]? =some (some sl)→(j=i∧i<ρ.length∧sl= .ow c₀)∨(j≠i∧ρ[j]? =some (some sl)):=fun j sl e=>by
  by_cases hj:j=i
  ·subst hj
   have hi:j<ρ.length:=by
    have:=(List.getElem?_eq_some_iff.mp e).1
    simpa using this
   rw[List.getElem?_set_self hi] at e
   cases e
   exact .inl ⟨rfl,hi,rfl⟩
  ·rw[List.getElem?_set_ne (Ne.symm hj)] at e
   exact .inr ⟨hj,e⟩
 have old:∀(j:Nat) (c:C) (b:Addr),ρ[j]? =some (some (.ow c))→σ[j]? =some (some (.ref b))→b≠a:=fun j c b e e' z=>by
  obtain⟨u,h1,b',o,h2,h3,_⟩:=s.st.den j _ e
  rw[h1] at e'
  cases e'
  cases h2
  rw[z,n] at h3
  cases h3
 refine⟨s.ext.trans E,⟨E.fh,fun j sl e=>?_⟩,by simp[hle],fun j c b e e'=>?_,fun j k c c' b e1 e2 e3 e4=>?_⟩
 ·rcases get j sl e with⟨rfl,hi,rfl⟩ | ⟨hj,e⟩
  ·exact⟨.ref a,by rw[List.getElem?_set_self (by omega)],a,_,rfl,ho,nF,h⟩
  ·obtain⟨u,h1,h2⟩:=s.st.den j sl e
   exact⟨u,by rw[List.getElem?_set_ne (Ne.symm hj)];exact h1,h2.ext E⟩
 ·rcases get j _ e with⟨rfl,hi,_⟩ | ⟨hj,e⟩
  ·rw[List.getElem?_set_self (by omega)] at e'
   cases e'
   exact Same.free s.ext.hh n
  ·rw[List.getElem?_set_ne (Ne.symm hj)] at e'
   exact s.own j c b e e'
 ·rcases get j _ e1 with⟨rfl,hi,_⟩ | ⟨hj,e1⟩
  ·rw[List.getElem?_set_self (by omega)] at e3
   cases e3
   rcases get k _ e2 with⟨rfl,_,_⟩ | ⟨hk,e2⟩
   ·rfl
   ·rw[List.getElem?_set_ne (Ne.symm hk)] at e4
    exact absurd rfl (old k c' a e2 e4)
  ·rcases get k _ e2 with⟨Kd,hi,_⟩ | ⟨hk,e2⟩
   ·rw[Kd,List.getElem?_set_self (by omega)] at e4
    cases e4
    rw[List.getElem?_set_ne (Ne.symm hj)] at e3
    exact absurd rfl (old j c a (by assumption) e3)
   ·rw[List.getElem?_set_ne (Ne.symm hj)] at e3
    rw[List.getElem?_set_ne (Ne.symm hk)] at e4
    exact s.sep j k c c' b e1 e2 e3 e4
theorem WPF.mono{K:W.Frag}{Xw:Nat→Hp→Prop}{F H:Hp}{m:M C}{Q Q':VK}(h:WPF K Xw F H m Q)(k:∀v H',Q v H'→Q' v H'):WPF K Xw F H m Q':=by
 match m,h with
 |none,h=>exact h
 |some (.ok d),h=>exact fun a o H' F' e h1 h2 h3 h4=>k _ _ (h a o H' F' e h1 h2 h3 h4)
 |some (.ex n),h=>exact h
theorem WPF.ext{K:W.Frag}{Xw:Nat→Hp→Prop}{F H F1 H1:Hp}{m:M C}{Q:VK}(e:Ext F H F1 H1)(h:WPF K Xw F H m Q):WPF K Xw F1 H1 m Q:=by
 match m,h with
 |none,h=>exact h
 |some (.ok d),h=>exact fun a o H' F' e' h1 h2 h3 h4=>h a o H' F' (e.trans e') h1 h2 (Same.free e.hh h3) h4
 |some (.ex n),h=>exact fun F2 H2 e2=>h F2 H2 (e.trans e2)
theorem WPF.bind{K:W.Frag}{Xw:Nat→Hp→Prop}{F H:Hp}{m:M D}{k:D→M C}{Q:VK}(h:WPF K Xw F H (m>>=k) Q):WP K Xw F H m fun v H1=>∃F1 d,Ext F H F1 H1∧Den K F1 d v∧WPF K Xw F1 H1 (k d) Q:=by
 match m,h with
 |none,h=>exact h
 |some (.ok d),h=>exact fun v H2 F2 e2 q=>⟨F2,d,e2,q,WPF.ext e2 (show WPF K Xw F H (k d) Q from h)⟩
 |some (.ex n),h=>exact h
def EU(a b:DF):DF:=fun ρ=>orM (a ρ) (b ρ)
section
variable{X:Cx}{Xw:Nat→Hp→Prop}{e k v a b:Expr}{es:List Expr}{δ δ':DF}{δk δv δa δb:DE}{δs:DA}{pos pos' p:Pos}{x:Str}{i:Nat}
theorem Dr(h:GQ X Xw e δ)(h':GQ X Xw e δ'):GQ X Xw e (EU δ δ'):=fun pins s σ H Q I ⟨F,ρ,S,w⟩=>by
 unfold EU orM at w
 cases q:δ ρ with
 |none=>rw[q] at w;exact h' pins s σ H Q I ⟨F,ρ,S,w⟩
 |some r=>rw[q] at w;exact h pins s σ H Q I ⟨F,ρ,S,by rw[q];exact w⟩
theorem uJ(hN:X.N.Nodup)(hi:X.N[i]? =some x)(hx:Loc X.env.scope x)(he:GQ X Xw e δ)(hf:X.fn x=true∨X.env.scope.names.lookup x=some .local:=by first | exact .inl rfl | exact .inr rfl)
 (hs:swapsWithSole [.Name x pos'] e pos.line X.env=pure false:=by rfl):
 jR X Xw (.Assign [.Name x pos'] e pos) (ya i δ):=fun F₀ H₀=>PS.weak (sf he (bE hN hi hx hf) hs) fun D σ H ⟨F,ρ,s,w⟩=>by
 refine⟨F,ρ,s.st,?_⟩
 unfold ya at w
 match δ ρ,w with
 |none,w=>exact w
 |some (.ok c),w=>exact fun a o H' F' E h1 h2 h3 h4=>w _ F' H' (s.setFresh E h1 h2 h3 h4)
 |some (.ex n),w=>exact fun F' H' e'=>w F' H' (s.ext.trans e')
theorem Hj{pins:List (Addr×Obj)}{σ:St}{H H':Hp}{s:Shared}{a:Addr}{y v:V}{u r:Value}{A:Around}{E:Value→Shared→Prop}{Q:Unit→Shared→Prop}(hu:A.units+1<cLine)(I:Inv X pins σ H s)(g:DPut H a y v H')(ry:RelV y u)(rv:RelV v r)(h:∀s',Inv X pins σ H' s'→Q () s'):
 wpAny (model X.prog X.w) A (dictSet a u r) Q E s:=by
 rcases g with⟨au,k,e,ey,l,eH⟩ | ⟨au,k,b,e,ey,eb,l,eH⟩
 ·subst ey eH
  obtain⟨z,hd,vs,rel,dd⟩:=Ed I.hok e
  have hz:vs.length≤sizeLine:=by rw[←rel.length];exact z
  have hl:(putK au k v).length≤sizeLine:=by have:=d9 au k v;omega
  refine wpAny_dictSet_pairs (hsz:=hz) (qj ry) dd fun h' z5 hs=>h _ ?_
  have he:∃q,h'.get? a=some q:=let ⟨q,_,_,hq,_⟩:=z5;⟨q,hq⟩
  exact jT I (by rw[e];exact True.intro) hs he (z8 hl hd (rel.put k rv) z5)
 ·subst ey eH
  cases (show u=Value.ref b from ry)
  obtain⟨z,hd,xs,rel,dd⟩:=z9 I.hok e
  have hz:xs.length≤sizeLine:=by rw[←Paired.length rel];exact z
  have hl:(putK au k v).length≤sizeLine:=by have:=d9 au k v;omega
  refine wpAny_dictSet_heap (knd:=tupleKind (bf X.prog X.w)) (hsz:=hz) (by exact(show A.units<cLine by omega)) (kW I.hok eb) dd fun h' z5 hs=>h _ ?_
  obtain⟨q,es,ep,hq,h2,h3,h4,_,h5⟩:=z5
  refine jT I (by rw[e];exact True.intro) hs ⟨q,hq⟩ ⟨hl,hd,_,(rel.put k eb rv).keeps fun c ys ec=>?_,q,es,ep,hq,h2,h3,h4,h5⟩
  rw[ax (AN ec e (fun z=>nomatch z))]
  exact ec
end
section
variable{X:Cx}{Xw:Nat→Hp→Prop}{e k v a b:Expr}{es:List Expr}{δk δv δa δb:DE}{δs:DA}{pos pos' p:Pos}{x:Str}{i:Nat}
theorem tF{o0:HO}{put:Hp→Addr→V→V→Hp→Prop}(hu:X.A.units+1<cLine)(h0:∀(H:Hp) (h:Heap),sysModules<h.objs.size→ObjOk X.prog X.w H (h.push {cls:= .type "dict",data:= .dict #[]}) h.objs.size o0){tk tv:TE}(hk:PE X k tk)(hv:PE X v tv):
 PE X (.Dict [some k] [v] pos) (fun σ H Q=>∀p,H p=none→tk σ (upd H p o0) fun y H1=>tv σ H1 fun z H2=>∃H3,DPut H2 p y z H3∧Q (.ref p) H3):=by
 intro pins s σ H Q I q
 have hn:=I.hok.fresh (Nat.le_refl s.heap.objs.size)
 have I1:=I.laid (a:=s.heap.objs.size) (o:=o0) (h':=s.heap.push {cls:= .type "dict",data:= .dict #[]}) (t':=s.toks) (fun _ _ q=>Heap.get?_push_of_some _ q) (Nat.le_refl _) (h0 _ s.heap I.big)
 refine wpAny_Dict_any rfl rfl (by simp) (by simp) (cg (Bp hk hv Dz pins _ σ _ (fun ps H2=>∃y z H3,ps=[(y,z)]∧DPut H2 s.heap.objs.size y z H3∧Q (.ref s.heap.objs.size) H3) I1 ?_) fun ws s2 ⟨ps,H2,I2,rel,y,z,H3,ep,g,q2⟩=>?_)
 ·refine ?_
  have:=q _ hn
  show tk σ _ fun y H1=>tv σ H1 fun z H2=>∃y' z' H3,[(y,z)]=[(y',z')]∧DPut H2 s.heap.objs.size y' z' H3∧Q (.ref s.heap.objs.size) H3
  have e:(fun (y:V) (H1:Hp)=>tv σ H1 fun z H2=>∃y' z' H3,[(y,z)]=[(y',z')]∧DPut H2 s.heap.objs.size y' z' H3∧Q (.ref s.heap.objs.size) H3)=(fun y H1=>tv σ H1 fun z H2=>∃H3,DPut H2 s.heap.objs.size y z H3∧Q (.ref s.heap.objs.size) H3):=by
   funext y H1
   congr 1
   funext z H2
   refine propext ⟨fun ⟨y',z',H3,ee,r⟩=>?_,fun⟨H3,r⟩=>⟨y,z,H3,rfl,r⟩⟩
   cases ee
   exact⟨H3,r⟩
  rw[e]
  exact this
 ·subst ep
  cases rel with
  | @cons a b as bs h t=>
    cases t
    obtain⟨r1,r2⟩:=h
    unfold storeAll
    rw[List.forIn_cons]
    refine wpAny_bind (wpAny_bind (Hj hu I2 g r1 r2 fun s3 I3=>?_))
    refine wpAny_pure ?_
    show wpAny _ _ (forIn ([]:List (Value×Value)) PUnit.unit _) _ _ _
    rw[List.forIn_nil]
    exact wpAny_pure ⟨V.ref s.heap.objs.size,_,I3,rfl,q2⟩
def nu(k v:D):M C:=match d8 k with
 |some kk=>M.ret (.dct [kk] [v])
 |none=>M.stuck
def p3(k v:D):M C:=match rF k with
 |some kk=>M.ret (.dci [kk] [v])
 |none=>M.stuck
theorem qC(hu:X.A.units+64<cLine)(hk:PD X Xw k δk)(hv:PD X Xw v δv):GQ X Xw (.Dict [some k] [v] pos) (fun ρ=>δk ρ>>=fun x=>δv ρ>>=fun y=>nu x y):=
 PE.weak (tF (o0:= .dT []) (put:=DPut) (by omega) (fun H h hb=>tH h hb) hk hv) fun σ H Q ⟨F,ρ,s,w⟩ q hq=>by
  have e0:=Ext.free (o:= .dT []) s.fh hq
  refine⟨F,ρ,s.ext e0,?_⟩
  have w:WPF X.K Xw F H (δk ρ>>=fun x=>δv ρ>>=fun y=>nu x y) Q:=w
  match tT:δk ρ,w with
  |none,w=>exact w
  |some (.ex n),w=>exact fun F' H' e'=>w F' H' (e0.trans e')
  |some (.ok kd),w=>
   intro y H1 F1 e1 q1
   refine⟨F1,ρ,(s.ext e0).ext e1,?_⟩
   have w:WPF X.K Xw F H (δv ρ>>=fun y=>nu kd y) Q:=w
   match Jr:δv ρ,w with
   |none,w=>exact w
   |some (.ex n),w=>exact fun F' H' e'=>w F' H' (e0.trans (e1.trans e'))
   |some (.ok vd),w=>
    intro z H2 F2 e2 q2
    have w3:WPF X.K Xw F H (nu kd vd) Q:=w
    clear w
    unfold nu at w3
    cases vR:d8 kd with
    |none=>rw[vR] at w3;exact w3.elim
    |some kk=>
     rw[vR] at w3
     have E:=e1.trans e2
     have HR:H2 q=some (.dT []):=E.hh _ _ aD
     have Hs:F2 q=none:=by
      have:=E.old (a:=q) (o:= .dT []) aD (fun _ z=>nomatch z)
      rw[this]
      exact Same.free s.fh hq
     unfold d8 at vR
     split at vR
     ·rename_i es
      obtain⟨b,ws,rfl,k2,k3,_⟩:=Den.mono e2.ff q1
      have e5:=hX vR k3
      subst e5
      refine⟨_,DPut.t (k:=kk) HR (e2.fh _ _ k2) (by rw[sizeLine_eq];decide),?_⟩
      refine w3 q (.dT (putK [] kk z)) _ F2 ⟨fun c u hc=>?_,(e0.trans E).ff,fun c u hc=>?_,(e0.trans E).new⟩ aD Hs hq ⟨[z],rfl, .cons q2 .nil,rfl,show 1≤lim by decide⟩
      ·rw[ax (fun zz=>by rw[zz,hq] at hc;cases hc)]
       exact(e0.trans E).hh c u hc
      ·rw[ax (fun zz=>by rw[zz,Hs] at hc;cases hc)]
       exact e2.fh c u hc
     ·cases vR
theorem zg(hu:X.A.units+64<cLine)(hk:PD X Xw k δk)(hv:PD X Xw v δv):GQ X Xw (.Dict [some k] [v] pos) (fun ρ=>δk ρ>>=fun x=>δv ρ>>=fun y=>p3 x y):=
 PE.weak (tF (o0:= .dK []) (put:=DPut) (by omega) (fun H h hb=>z7 h hb) hk hv) fun σ H Q ⟨F,ρ,s,w⟩ q hq=>by
  have e0:=Ext.free (o:= .dK []) s.fh hq
  refine⟨F,ρ,s.ext e0,?_⟩
  have w:WPF X.K Xw F H (δk ρ>>=fun x=>δv ρ>>=fun y=>p3 x y) Q:=w
  match tT:δk ρ,w with
  |none,w=>exact w
  |some (.ex n),w=>exact fun F' H' e'=>w F' H' (e0.trans e')
  |some (.ok kd),w=>
   intro y H1 F1 e1 q1
   refine⟨F1,ρ,(s.ext e0).ext e1,?_⟩
   have w:WPF X.K Xw F H (δv ρ>>=fun y=>p3 kd y) Q:=w
   match Jr:δv ρ,w with
   |none,w=>exact w
   |some (.ex n),w=>exact fun F' H' e'=>w F' H' (e0.trans (e1.trans e'))
   |some (.ok vd),w=>
    intro z H2 F2 e2 q2
    have w3:WPF X.K Xw F H (p3 kd vd) Q:=w
    clear w
    unfold p3 at w3
    cases vR:rF kd with
    |none=>rw[vR] at w3;exact w3.elim
    |some kk=>
     rw[vR] at w3
     have E:=e1.trans e2
     have HR:H2 q=some (.dK []):=E.hh _ _ aD
     have Hs:F2 q=none:=by
      have:=E.old (a:=q) (o:= .dK []) aD (fun _ z=>nomatch z)
      rw[this]
      exact Same.free s.fh hq
     have e5:=j5 vR (Den.mono e2.ff q1)
     subst e5
     refine⟨_,DPut.k (k:=kk) HR (by rw[sizeLine_eq];decide),?_⟩
     refine w3 q (.dK (putK [] kk z)) _ F2 ⟨fun c u hc=>?_,(e0.trans E).ff,fun c u hc=>?_,(e0.trans E).new⟩ aD Hs hq ⟨[z],rfl, .cons q2 .nil,rfl,show 1≤lim by decide⟩
     ·rw[ax (fun zz=>by rw[zz,hq] at hc;cases hc)]
      exact(e0.trans E).hh c u hc
     ·rw[ax (fun zz=>by rw[zz,Hs] at hc;cases hc)]
      exact e2.fh c u hc
theorem wX{K:W.Frag}{F H:Hp}{d k:D}{x y:V}{o:Option D}(s:Same F H)(hd:Den K F d x)(hk:Den K F k y)(e:B8 d k=some o):
 ∃a ov,x= .ref a∧pj H a y ov∧ov.isSome=o.isSome∧∀d',o=some d'→∃v,ov=some v∧Den K F d' v:=by
 obtain⟨a,ov,h1,h2,h3,h4⟩:=wY (σ:=[some x]) (ρ:=[some (.fz d)]) (i:=0) (H:=H) ⟨s,fun i sl q=>by
  match i,q with
  |0,q=>cases q;exact⟨x,rfl,hd⟩
  |i+1,q=>simp at q⟩ rfl hk e
 cases h1
 exact⟨a,ov,rfl,h2,h3,h4⟩
def eu(neg:Bool)(k d:D):M D:=match B8 d k with
 |some o=>M.ret (.bl (if neg then !o.isSome else o.isSome))
 |none=>M.stuck
def Gv(neg:Bool):R2:=fun y x H Q=>∃a o,x= .ref a∧pj H a y o∧Q (.bl (if neg then !o.isSome else o.isSome)) H
theorem FO(hu:X.A.units+64<cLine):OpR X (compareOp .In) (Gv false):=fun pins s σ H y x v u Q I ry rx ⟨a,o,ex,g,q⟩=>by
 subst ex
 obtain rfl:u=Value.ref a:=rx
 exact Hi (by omega) I g ry fun s' I'=>⟨.bl o.isSome,_,I',rfl,q⟩
theorem y_(hu:X.A.units+64<cLine):OpR X (compareOp .NotIn) (Gv true):=fun pins s σ H y x v u Q I ry rx ⟨a,o,ex,g,q⟩=>by
 subst ex
 obtain rfl:u=Value.ref a:=rx
 exact Cz (by omega) I g ry fun s' I'=>⟨.bl (!o.isSome),_,I',rfl,q⟩
theorem xI{K:W.Frag}{neg:Bool}:vo K (Gv neg) (eu neg):=fun Xw F H y x dk dd Q s hk hd w=>by
 unfold eu at w
 cases he:B8 dd dk with
 |none=>rw[he] at w;exact w.elim
 |some o=>
  rw[he] at w
  obtain⟨a,ov,h1,h2,h3,_⟩:=wX s hd hk he
  refine⟨a,ov,h1,h2,?_⟩
  rw[h3]
  exact WP.now w s rfl
theorem Bu(hu:X.A.units+64<cLine)(ha:PD X Xw a δa)(hb:PD X Xw b δb)(hm:behindInMarks .In b=false:=by rfl):mm X Xw (.Compare a [.In] [b] pos) (cf (d2 (eu false) δa δb)):=eI (FO hu) xI ha hb hm
theorem i9(hu:X.A.units+64<cLine)(ha:PD X Xw a δa)(hb:PD X Xw b δb)(hm:behindInMarks .NotIn b=false:=by rfl):mm X Xw (.Compare a [.NotIn] [b] pos) (cf (d2 (eu true) δa δb)):=eI (y_ hu) xI ha hb hm
def jX(d k:D):M D:=match B8 d k with
 |some (some v)=>M.ret v
 |_=>M.stuck
theorem wo(hu:X.A.units+64<cLine)(ha:PD X Xw a δa)(hb:PD X Xw b δb)(hs:EE b:=by intro _ _;rfl):PD X Xw (.Subscript a b pos) (d2 jX δa δb):=
 PE.weak (Dw (by omega) ha hb hs) fun σ H Q ⟨F,ρ,s,w⟩=>by
  refine⟨F,ρ,s,WP.mono (WP.bind w) fun x H1 ⟨F1,d,e1,q1,w1⟩=>?_⟩
  refine⟨F1,ρ,s.ext e1,WP.mono (WP.bind w1) fun y H2 ⟨F2,k,e2,q2,w2⟩=>?_⟩
  unfold jX at w2
  cases he:B8 d k with
  |none=>rw[he] at w2;exact w2.elim
  |some o=>
   cases o with
   |none=>rw[he] at w2;exact w2.elim
   |some d'=>
    rw[he] at w2
    obtain⟨a,ov,h1,h2,h3,h4⟩:=wX e2.fh (Den.mono e2.ff q1) q2 he
    obtain⟨v,rfl,hd⟩:=h4 d' rfl
    exact⟨a,v,h1,h2,WP.now w2 e2.fh hd⟩
end
section
variable{X:Cx}{pins:List (Addr×Obj)}{σ:St}{H:Hp}{s:Shared}{h':Heap}
end
section
variable{X:Cx}{Xw:Nat→Hp→Prop}{tg e:Expr}{es:List Expr}{δ δi:DE}{δs:DA}{pos p tp:Pos}{x1:Nat}
end
def C1:Key→D
 | .inl i=> .int i
 | .inr x=> .str x
def D7(H:Hp)(d:Addr)(od:Obj)(i:Nat)(x:V):Prop:=
 (∃au k b,H d=some (.frz od (.dT au))∧(au.map (·.1))[i]? =some k∧x= .ref b∧H b=some (.tup (k.map kV)))∨
 ∃au k,H d=some (.frz od (.dK au))∧(au.map (·.1))[i]? =some k∧x=kV k
def Li(d:Addr)(od:Obj):It:=
 ⟨fun i H=>(∃au,H d=some (.frz od (.dT au))∧i<au.length)∨∃au,H d=some (.frz od (.dK au))∧i<au.length,fun i H x H'=>H'=H∧D7 H d od i x,
  fun i H=>(∃au,H d=some (.frz od (.dT au))∧au.length≤i)∨∃au,H d=some (.frz od (.dK au))∧au.length≤i⟩
theorem l_{α β γ:Type}{R:α→β→Prop}{f:α→γ}{g:β→γ}(h:∀a b,R a b→f a=g b):∀{l:List α}{m:List β},Paired R l m→l.map f=m.map g
 |_,_, .nil=>rfl
 |_,_, .cons r t=>by rw[List.map_cons,List.map_cons,h _ _ r,l_ h t]
theorem jI{α β:Type}{R:α→β→Prop}:∀{l:List α}{m:List β}{i:Nat}{a:α},Paired R l m→l[i]? =some a→∃b,m[i]? =some b∧R a b
 |_,_,i,_, .nil,e=>by simp at e
 |_,_,0,_, .cons r t,e=>by simp at e;subst e;exact⟨_,rfl,r⟩
 |_,_,i+1,_, .cons r t,e=>by
  obtain⟨b,e1,e2⟩:=jI (i:=i) t (by simpa using e)
  exact⟨b,by simpa using e1,e2⟩
theorem zc{prog:Program}{w:World}{κ:Type}[DecidableEq κ]{knd:KeyKind prog w κ}:∀{es:List DictEntry}{au:List (κ×Value)}{i:Nat}{kv:κ×Value},Pairs knd es au→au[i]? =some kv→∃e,es[i]? =some e∧knd.is kv.1 e.key=true:=by
 intro es au i kv h e
 induction h generalizing i with
 |nil=>simp at e
 | @cons en OC GU N4 h1 h2 h3 ih=>
   cases i with
   |zero=>simp at e;subst e;exact⟨en,rfl,h1⟩
   |succ i=>
    obtain⟨q,e1,e2⟩:=ih (i:=i) (by simpa using e)
    exact⟨q,by simpa using e1,e2⟩
theorem FA{k:Key}{u:Value}(h:nW k u=true):RelV (kV k) u:=by
 rcases bF h with⟨i,t,rfl,rfl⟩ | ⟨x,t,rfl,rfl⟩
 ·exact⟨t,rfl⟩
 ·exact⟨t,rfl⟩
theorem nq{X:Cx}{pins:List (Addr×Obj)}{σ:St}{H:Hp}{s:Shared}{d:Addr}{od:Obj}{n:Nat}(I:Inv X pins σ H s)
 (h:(∃au,H d=some (.frz od (.dT au))∧n=au.length)∨∃au,H d=some (.frz od (.dK au))∧n=au.length):
 ∃es ep,(d==sysModules)=false∧s.heap.get? d=some od∧od.ExactDict∧od.data= .dict es ep∧es.size=n∧∀i,i<n→∃e x,es[i]? =some e∧RelV x e.key∧D7 H d od i x:=by
 rcases h with⟨au,e,rfl⟩ | ⟨au,e,rfl⟩
 ·obtain⟨ho,z,lo,xs,rel,o,es,ep,h1,h2,h3,h4,h5⟩:=(show ObjOk X.prog X.w H s.heap d (.frz od (.dT au)) from I.hok d _ e)
  rw[ho] at h1
  cases h1
  have hl:es.size=au.length:=by
   rw[←Array.length_toList,h4,List.length_map]
   exact(Paired.length rel).symm
  refine⟨es,ep,lo,ho,h2,h3,hl,fun i hi=>?_⟩
  obtain⟨q,e1,e2,e3,e4⟩:=jI rel (List.getElem?_eq_getElem hi)
  refine⟨entryOfKey (tupleKind (bf X.prog X.w)) q, .ref q.2.1,?_,rfl, .inl ⟨au,au[i].1,q.2.1,e,?_,rfl,e3⟩⟩
  ·rw[←Array.getElem?_toList,h4,List.getElem?_map,e1]
   rfl
  ·rw[List.getElem?_map,List.getElem?_eq_getElem hi]
   rfl
 ·obtain⟨ho,z,lo,vs,rel,o,es,ep,h1,h2,h3,h4,h5,h6⟩:=(show ObjOk X.prog X.w H s.heap d (.frz od (.dK au)) from I.hok d _ e)
  rw[ho] at h1
  cases h1
  have hl:es.size=au.length:=by
   rw[←Array.length_toList,h5.length]
   exact(Paired.length rel).symm
  refine⟨es,ep,lo,ho,h2,h3,hl,fun i hi=>?_⟩
  obtain⟨q,e1,e2,e3⟩:=jI rel (List.getElem?_eq_getElem hi)
  obtain⟨en,e4,e5⟩:=zc h5 e1
  refine⟨en,kV au[i].1,by rw[←Array.getElem?_toList];exact e4,?_, .inr ⟨au,au[i].1,e,by rw[List.getElem?_map,List.getElem?_eq_getElem hi];rfl,rfl⟩⟩
  rw[e2]
  exact FA e5
theorem zt{P:Program}{w:World}{K:W.Frag}{tg:Expr}(d it:Addr)(od:Obj)(es:Array DictEntry)(ep:Nat)(mr:od.data= .dict es ep):
 Turn P w K tg (Li d od) [it] it (fun i h=>h.IsKeyIter it d i es.size ep) where
 mem:=by simp
 obj:=fun i h st b hb=>by
  have e:b=it:=by simpa using hb
  subst e
  obtain⟨o,e,c,dd⟩:=st
  exact⟨o,e,fun v z=>by rw[dd] at z;cases z⟩
 keep:=fun i h h' st k=>st.at fun o e=>k it (by simp) o e
 item:=by
  intro X hP hw hK hc i pins s σ H E I hf st hg
  subst hP hw hK
  obtain⟨n,hn,hi⟩:∃n,((∃au,H d=some (.frz od (.dT au))∧n=au.length)∨∃au,H d=some (.frz od (.dK au))∧n=au.length)∧i<n:=by
   rcases hg with⟨au,e,hi⟩ | ⟨au,e,hi⟩
   ·exact⟨_, .inl ⟨au,e,rfl⟩,hi⟩
   ·exact⟨_, .inr ⟨au,e,rfl⟩,hi⟩
  obtain⟨GU,CI,lo,ho,hx,qc,hsz,hk⟩:=nq I hn
  rw[mr] at qc
  cases qc
  obtain⟨en,x,e1,rx,ka⟩:=hk i hi
  obtain⟨f0,f1,f2,f3,f4,f5⟩:=hf it (by simp)
  refine uh st ho mr e1 fun h' o5 sb=>?_
  have I1:Inv X pins σ H {s with heap:=h'}:=I.turned (t':=s.toks) (fun b o hb e=>(sb.2 b hb).trans e) f0 f1 f3 f4 f5
  obtain⟨o,e2,c,dd⟩:=id o5
  exact⟨_,rfl,qb (s:={s with heap:=h'}) e2 c dd (by decide) ⟨x,H,I1,rx,⟨rfl,ka⟩,o5,fun b hb=>(hf b hb).1⟩⟩
 done:=by
  intro X hP hw hK hc i pins s σ H E I hf st hg
  subst hP hw hK
  obtain⟨n,hn,hi⟩:∃n,((∃au,H d=some (.frz od (.dT au))∧n=au.length)∨∃au,H d=some (.frz od (.dK au))∧n=au.length)∧n≤i:=by
   rcases hg with⟨au,e,hi⟩ | ⟨au,e,hi⟩
   ·exact⟨_, .inl ⟨au,e,rfl⟩,hi⟩
   ·exact⟨_, .inr ⟨au,e,rfl⟩,hi⟩
  obtain⟨GU,CI,lo,ho,hx,qc,hsz,hk⟩:=nq I hn
  rw[mr] at qc
  cases qc
  obtain⟨f0,f1,f2,f3,f4,f5⟩:=hf it (by simp)
  exact p5 (I.ok.hd hc) st (by omega) ho mr fun h' eb=>⟨rfl,I.turned (t':=s.toks) (fun b o hb e=>eb b o hb e) f0 f1 f3 f4 f5⟩
 self:=fun _ _ _ _ _ st h=>wpAny_pyIter_keyiter st h
def tupK(k:List Key):D:= .tup (k.map C1)
def xG:Key→Bool
 | .inl _=>true
 | .inr x=>decide (x.length≤lim)
def jl:D→M (List D)
 | .dct ks _=>if ks.all (fun k=>decide (k.length≤lim)&&k.all xG) then M.ret (ks.map tupK) else M.stuck
 | .dci ks _=>if ks.all xG then M.ret (ks.map C1) else M.stuck
 |_=>M.stuck
theorem tZ{K:W.Frag}{F:Hp}{k:Key}(h:xG k=true):Den K F (C1 k) (kV k):=by
 cases k with
 |inl i=>exact rfl
 |inr x=>exact⟨rfl,of_decide_eq_true h⟩
theorem qk{K:W.Frag}{F:Hp}:∀{k:List Key},k.all xG=true→DenL K F (k.map C1) (k.map kV)
 |[],_=>rfl
 |x::k,h=>by
  rw[List.all_cons,Bool.and_eq_true] at h
  exact .cons (tZ h.1) (qk h.2)
theorem Az{K:W.Frag}{F:Hp}{a:Addr}{ob:Obj}{d:D}{ds:List D}(hd:Den K F d (.ref a))(hF:∃u,F a=some (.frz ob u))(e:jl d=M.ret ds):ItD K F (Li a ob) ds:=fun F' H' i s1 s2=>by
 unfold jl at e
 split at e
 ·rename_i ks es
  split at e
  ·rename_i hok
   obtain rfl:=fE e
   obtain⟨a',N8,vs,z,h2,h3,h4,h5⟩:=hd
   cases z
   obtain⟨u,hu⟩:=hF
   rw[h2] at hu
   cases hu
   have hh:=s2 _ _ (s1 _ _ h2)
   have hz:=gZ (a:=ks) (b:=vs) (by rw[h4];exact h3.len)
   have hl:(ks.zip vs).length=ks.length:=by rw[←List.length_map (f:=(·.1)),hz]
   refine⟨fun d e=>?_,fun hle=> .inl ⟨_,hh,by rw[hl];simpa using hle⟩⟩
   rw[List.getElem?_map] at e
   cases q:ks[i]? with
   |none=>rw[q] at e;cases e
   |some k=>
    rw[q] at e
    cases e
    have hi:=(List.getElem?_eq_some_iff.mp q).1
    refine⟨.inl ⟨_,hh,by rw[hl];exact hi⟩,fun x H'' ⟨y1,y2⟩=>?_⟩
    subst y1
    have hk:=List.all_eq_true.mp hok k (List.mem_of_getElem? q)
    rw[Bool.and_eq_true] at hk
    rcases y2 with⟨au,k',b,q1,q2,rfl,q3⟩ | ⟨au,k',q1,q2,rfl⟩
    ·rw[hh] at q1
     cases q1
     rw[hz,q] at q2
     cases q2
     have E:=Ext.tup (F:=F') s2 q3
     exact⟨_,E,b,_,rfl,aD,qk hk.2,by rw[List.length_map];exact of_decide_eq_true hk.1⟩
    ·rw[hh] at q1;cases q1
  ·exact(iN e).elim
 ·rename_i ks es
  split at e
  ·rename_i hok
   obtain rfl:=fE e
   obtain⟨a',N8,vs,z,h2,h3,h4,h5⟩:=hd
   cases z
   obtain⟨u,hu⟩:=hF
   rw[h2] at hu
   cases hu
   have hh:=s2 _ _ (s1 _ _ h2)
   have hz:=gZ (a:=ks) (b:=vs) (by rw[h4];exact h3.len)
   have hl:(ks.zip vs).length=ks.length:=by rw[←List.length_map (f:=(·.1)),hz]
   refine⟨fun d e=>?_,fun hle=> .inr ⟨_,hh,by rw[hl];simpa using hle⟩⟩
   rw[List.getElem?_map] at e
   cases q:ks[i]? with
   |none=>rw[q] at e;cases e
   |some k=>
    rw[q] at e
    cases e
    have hi:=(List.getElem?_eq_some_iff.mp q).1
    refine⟨.inr ⟨_,hh,by rw[hl];exact hi⟩,fun x H'' ⟨y1,y2⟩=>?_⟩
    subst y1
    have hk:=List.all_eq_true.mp hok k (List.mem_of_getElem? q)
    rcases y2 with⟨au,k',b,q1,q2,rfl,q3⟩ | ⟨au,k',q1,q2,rfl⟩
    ·rw[hh] at q1;cases q1
    ·rw[hh] at q1
     cases q1
     rw[hz,q] at q2
     cases q2
     exact⟨F',Ext.refl s2,tZ hk⟩
  ·exact(iN e).elim
 ·exact(iN e).elim
section
variable{X:Cx}{Xw:Nat→Hp→Prop}{tg l:Expr}{δ:DE}
theorem uI(h:PD X Xw l δ):yi X Xw tg l (fun ρ=>δ ρ>>=jl):=by
 intro pins s σ H R I ⟨F,ρ,S,w⟩
 refine cg (h pins s σ H (fun v H1=>∃F1 d,Ext F H F1 H1∧Den X.K F1 d v∧WPI X.K Xw F1 H1 (jl d) R) I ⟨F,ρ,S,WPI.bind w⟩) fun u s1 ⟨v,H1,I1,r1,F1,d,e1,q1,w1⟩=>?_
 rcases(jl d).cs with z | ⟨n,z⟩ | ⟨ds,z⟩
 ·rw[z] at w1;exact w1.elim
 ·exfalso
  unfold jl at z
  split at z
  ·split at z<;>cases z
  ·split at z<;>cases z
  ·cases z
 ·rw[z] at w1
  obtain⟨a,ob,u',rfl,hF,hn⟩:∃a ob u',v= .ref a∧F1 a=some (.frz ob u')∧∃n,((∃au,H1 a=some (.frz ob (.dT au))∧n=au.length)∨∃au,H1 a=some (.frz ob (.dK au))∧n=au.length):=by
   unfold jl at z
   split at z
   ·obtain⟨a,ob,vs,e,h2,_⟩:=q1;exact⟨a,ob,_,e,h2,_, .inl ⟨_,e1.fh _ _ h2,rfl⟩⟩
   ·obtain⟨a,ob,vs,e,h2,_⟩:=q1;exact⟨a,ob,_,e,h2,_, .inr ⟨_,e1.fh _ _ h2,rfl⟩⟩
   ·exact(iN z).elim
  obtain⟨n,hn⟩:=hn
  cases (show u=_ from r1)
  obtain⟨es,ep,lo,ho,hx,hd,hsz,hk⟩:=nq I1 hn
  refine qi lo ho hx hd ?_
  refine⟨s1.heap.objs.size,[s1.heap.objs.size],_,_,H1,rfl,I1.kept (t':=s1.toks) fun b o e=>Heap.get?_push_of_some _ e,zt a _ ob es ep hd,⟨_,Heap.get?_push_size _ rfl,rfl,rfl⟩,fun b hb=>?_,w1 _ _ _ (Ext.refl e1.fh) (Az q1 ⟨_,hF⟩ z)⟩
  have e:b=s1.heap.objs.size:=by simpa using hb
  subst e
  exact I1.fpOk (Nat.le_refl _) (I1.hok.fresh (Nat.le_refl _))
end
end L3
namespace L3
open PySem
section
variable{prog:Program}{w:World}{K:Type}[DecidableEq K]{knd:HeapKind prog w K}{A:Around}{E:Value→Shared→Prop}{s:Shared}
theorem oZ{d a:Addr}{xs:List (K×Addr×Value)}{k:K}{v:Value}{Q:Unit→Shared→Prop}(hu:knd.room A)(yH:knd.is s.heap k a)(hm:s.heap.DictOfH knd d xs)(hsz:xs.length≤sizeLine)
 (hQ:∀h',h'.DictOfH knd d (storedH xs k a v)→Heap.SameBut d s.heap h'→Q () {s with heap:=h'}):wpAny (model prog w) A (dictSetHashed d (.ref a) (knd.hash k) v) Q E s:=by
 obtain⟨o,es,ep,ho,hc,hd,he,Ka,hn⟩:=hm
 unfold dictSetHashed
 refine wpAny_holding (wpAny_bind (wpAny_dictFind_heap hu yH ho hd he Ka hn (fun rB=>?_) fun j p hj=>?_))
 ·have e0:=atKey_none_of_get rB
  have hz:es.size≤sizeLine:=by rw[size_of_entries he];exact hsz
  refine wpAny_bind (wpAny_rule (wpAny_updateDictKeys (hz:=hz) ho hd (hQ _ ?_ (Heap.SameBut.update ..))))
  rw[storedH_new e0]
  refine⟨_,_,ep+1,Heap.get?_update_self _ ho (Obj.isFreed_of_dict (Obj.data_mapDictKeys hd _)),hc.mapDictKeys _,Obj.data_mapDictKeys hd _,by simp[he,entryOfKey],fun x hx=>?_,?_⟩
  ·rcases List.mem_append.mp hx with hx | hx
   ·exact knd.keeps (Ka x hx) ho hd (Heap.SameBut.update ..)
   ·obtain rfl:x=(k,a,v):=by simpa using hx
    exact knd.keeps yH ho hd (Heap.SameBut.update ..)
  ·rw[List.map_append]
   refine List.nodup_append.mpr ⟨hn,by simp,fun x hx y hy z=>?_⟩
   have hy:y=k:=by simpa using hy
   exact not_mem_keys_of_get rB (by rw[←hy,←z];exact hx)
 ·have e0:=atKey_of_get hn hj
  refine wpAny_bind (wpAny_rule (wpAny_bind (wpAny_updateDict ho hd (wpAny_point (hQ _ ?_ (Heap.SameBut.update ..))))))
  rw[storedH_old e0]
  refine⟨_,_,ep,Heap.get?_update_self _ ho (Obj.isFreed_of_dict (Obj.data_mapDict hd _)),hc.mapDict _,Obj.data_mapDict hd _,?_,fun x hx=>?_,by rw[keys_map_putAt];exact hn⟩
  ·have:=modify_map_putAt (entryOfKey knd) (fun e:DictEntry=>{e with val:=v}) k v (fun _ _=>rfl) hn hj
   rw[←he] at this
   obtain⟨l⟩:=es
   simpa using this
  ·obtain⟨y,hy,rfl⟩:=List.mem_map.mp hx
   unfold putAt
   split<;>exact knd.keeps (Ka y hy) ho hd (Heap.SameBut.update ..)
def cK(xs ys:List (K×Addr×Value)):List (K×Addr×Value):=ys.foldl (fun acc y=>storedH acc y.1 y.2.1 y.2.2) xs
theorem u5(xs:List (K×Addr×Value))(k:K)(a:Addr)(v:Value):(storedH xs k a v).length≤xs.length+1:=by
 unfold storedH;split<;>simp
theorem lI:∀(ys xs:List (K×Addr×Value)),(cK xs ys).length≤xs.length+ys.length
 |[],xs=>Nat.le_refl _
 |y::ys,xs=>by
  have h1:=lI ys (storedH xs y.1 y.2.1 y.2.2)
  have h2:=u5 xs y.1 y.2.1 y.2.2
  show (cK (storedH xs y.1 y.2.1 y.2.2) ys).length≤_
  rw[List.length_cons];omega
theorem rK{xs ys:List (K×Addr×Value)}{i:Nat}{y:K×Addr×Value}(h:ys[i]? =some y):cK xs (ys.take (i+1))=storedH (cK xs (ys.take i)) y.1 y.2.1 y.2.2:=by
 rw[List.take_add_one,h]
 unfold cK
 rw[List.foldl_append]
 rfl
theorem lJ:∀(ys acc:List (K×Addr×Value)),((acc++ys).map (·.1)).Nodup→cK acc ys=acc++ys
 |[],acc,_=>by simp[cK]
 |y::ys,acc,hn=>by
  show cK (storedH acc y.1 y.2.1 y.2.2) ys=_
  have Kg:y.1∉acc.map (·.1):=fun h=>by
   rw[List.map_append] at hn
   exact(List.nodup_append.mp hn).2.2 _ h _ (by simp) rfl
  have e0:atKey acc y.1=none:=atKey_none_of_get fun j p hj=>Kg (List.mem_map.mpr ⟨_,List.mem_of_getElem? hj,rfl⟩)
  rw[storedH_new e0,lJ ys (acc++[(y.1,y.2.1,y.2.2)]) (by simpa using hn)]
  simp
theorem rh{id:String}{o:Addr}{ob:Obj}{es:Array DictEntry}{ep:Nat}{Q:Array DictEntry→Shared→Prop}(ho:s.heap.get? o=some ob)(hd:ob.data= .dict es ep)
 (hq:∀e∈es.toList,∃a,e.key= .ref a∧s.TypeIs (.ref a) "tuple")(hh:∀e∈es.toList,(es.filter (·.hash==e.hash)).size≤1)(h:Q es s):wpAny (model prog w) A (Builtin.Dict.entriesForEmpty id o) Q E s:=by
 unfold Builtin.Dict.entriesForEmpty
 refine wpAny_bind (wpAny_dictEntries ho hd ?_)
 rw[←Array.forIn_toList]
 refine wpAny_bind (wpAny_forIn_list _ (fun rest _ s'=>s'=s∧∀e∈rest,e∈es.toList) _ ?_ ?_ _ _ ⟨rfl,fun _ h=>h⟩)
 ·rintro e rest b s' ⟨rfl,hr⟩
  obtain⟨a,ea,ta⟩:=hq e (hr e (List.mem_cons_self ..))
  have hf:=hh e (hr e (List.mem_cons_self ..))
  have dO:¬((es.filter (·.hash==e.hash)).size>1):=by omega
  rw[ea]
  unfold Builtin.Dict.quietEq
  refine wpAny_bind (wpAny_bind (wpAny_specialOf ta F.slot_tuple_eq.lookup (wpAny_pure ?_)))
  simp only[dO,if_false]
  have:(some (Value.builtin "tuple.__eq__")==some (Value.builtin "object.__eq__"))=false:=by decide
  simp only[this,Bool.not_false,if_true]
  exact wpAny_pure ⟨rfl,fun x hx=>hr x (List.mem_cons_of_mem _ hx)⟩
 ·rintro b s' ⟨rfl,_⟩
  exact wpAny_pure h
theorem n8{nm:String}{d o:Addr}{xs ys:List (K×Addr×Value)}{Q:Unit→Shared→Prop}(hu:knd.room A)(LL:d≠o)(Nw:(o==sysModules)=false)(hd:s.heap.DictOfH knd d xs)(ho:s.heap.DictOfH knd o ys)
 (Nj:∀{h:Heap}{k:K}{a:Addr},knd.is h k a→∃ob,h.get? a=some ob∧ob.cls= .type "tuple")(hh:xs=[]→(ys.map fun y=>knd.hash y.1).Nodup)(hsz:xs.length+ys.length≤sizeLine)
 (hQ:∀h',h'.DictOfH knd d (cK xs ys)→Heap.SameBut d s.heap h'→Q () {s with heap:=h'}):wpAny (model prog w) A (Builtin.Dict.mergeDict nm d o) Q E s:=by
 obtain⟨od,MD,MA,yI,vp,mr,M3,J7,xn⟩:=id hd
 obtain⟨oo,vM,MB,HQ,Oo,yE,zB,J_,rB⟩:=id ho
 have hlen:=size_of_entries zB
 unfold Builtin.Dict.mergeDict
 rw[if_neg (by simpa using LL)]
 unfold Builtin.Dict.showsAll
 rw[if_neg (by rw[Nw];exact Bool.false_ne_true)]
 refine wpAny_bind (wpAny_pure (wpAny_bind (wpAny_dictEntries HQ yE ?_)))
 have loop:∀(body:Nat→PUnit→Sem (ForInStep PUnit)),body=(fun i (_:PUnit)=>(do
       let l'←dictEntries o
       match l'[i]? with
        |some e=>do
         holding [e.key,e.val] (dictSetHashed d e.key e.hash e.val)
         let CI←dictEpoch o
         if (CI !=MB)=true then do (unsupported (toString nm++toString ":source-changed-during-callback"):Sem PUnit);pure (ForInStep.yield PUnit.unit) else pure (ForInStep.yield PUnit.unit)
        |_=>do
         (unsupported "internal:dict-merge":Sem PUnit)
         pure (ForInStep.yield PUnit.unit):Sem (ForInStep PUnit)))→wpAny (model prog w) A (forIn [:vM.size] PUnit.unit body) (fun _ s'=>Q () s') E s:=by
  rintro _ rfl
  rw[Std.Legacy.Range.forIn_eq_forIn_range']
  simp only[Std.Legacy.Range.size,Nat.sub_zero,Nat.add_sub_cancel,Nat.div_one]
  refine wpAny_forIn_list _ (fun rest _ s'=>∃h' i,s'={s with heap:=h'}∧rest=List.range' i (vM.size - i)∧i≤vM.size∧h'.DictOfH knd d (cK xs (ys.take i))∧h'.get? o=some oo∧Heap.SameBut d s.heap h') _ ?_ ?_ _ _
   ⟨s.heap,0,rfl,by simp,Nat.zero_le _,by simpa[cK] using hd,HQ,Heap.SameBut.refl _ _⟩
  ·rintro x rest b s' ⟨h',i,rfl,hr,hi,qc,Fj,tV⟩
   have dO:i<vM.size:=by
    by_cases h:i<vM.size
    ·exact h
    ·rw[show vM.size - i=0 by omega] at hr;simp at hr
   rw[show vM.size - i=(vM.size - (i+1))+1 by omega,List.range'_succ] at hr
   injection hr with h1 h2
   subst h1
   refine wpAny_bind (wpAny_dictEntries Fj yE ?_)
   obtain⟨y,hy⟩:∃y,ys[x]? =some y:=⟨_,List.getElem?_eq_getElem (by omega)⟩
   rw[entry_at zB x,hy]
   have Nt:(cK xs (ys.take x)).length≤sizeLine:=by
    have e1:=lI (ys.take x) xs
    rw[List.length_take] at e1
    omega
   have Nk:knd.is h' y.1 y.2.1:=knd.keeps (J_ y (List.mem_of_getElem? hy)) yI mr tV
   refine wpAny_bind (wpAny_holding (oZ hu Nk qc Nt fun Lv J1 HV=>?_))
   have Es:Lv.get? o=some oo:=(HV.2 o (Ne.symm LL)).trans Fj
   refine wpAny_bind (wpAny_dictEpoch Es yE ?_)
   rw[if_neg (by simp)]
   exact wpAny_pure ⟨Lv,x+1,rfl,h2,dO,by rw[rK hy];exact J1,Es,tV.trans HV⟩
  ·rintro b s' ⟨h',i,rfl,hr,hi,qc,Fj,tV⟩
   have Ao:i=vM.size:=by
    by_cases h:i<vM.size
    ·rw[show vM.size - i=(vM.size - (i+1))+1 by omega,List.range'_succ] at hr;exact nomatch hr
    ·omega
   refine hQ h' ?_ tV
   rw[Ao,hlen,List.take_length] at qc;exact qc
 have go:wpAny (model prog w) A (do
  let Hl←dictEpoch o
  let l←dictEntries o
  forIn [:l.size] PUnit.unit fun i (_:PUnit)=>(do
   let l'←dictEntries o
   match l'[i]? with
    |some e=>do
     holding [e.key,e.val] (dictSetHashed d e.key e.hash e.val)
     let CI←dictEpoch o
     if (CI !=Hl)=true then do (unsupported (toString nm++toString ":source-changed-during-callback"):Sem PUnit);pure (ForInStep.yield PUnit.unit) else pure (ForInStep.yield PUnit.unit)
    |_=>do
     (unsupported "internal:dict-merge":Sem PUnit)
     pure (ForInStep.yield PUnit.unit):Sem (ForInStep PUnit))
  pure ()) Q E s:=by
  refine wpAny_bind (wpAny_dictEpoch HQ yE (wpAny_bind (wpAny_dictEntries HQ yE (wpAny_bind ?_))))
  exact wpAny_mono (loop _ rfl) (fun _ _ h=>wpAny_pure h) fun _ _ h=>h
 dsimp only
 split
 ·refine wpAny_bind (wpAny_dictEntries yI mr ?_)
  split
  ·rename_i E9
   have HZ:xs=[]:=by
    have h0:MD= #[]:=Array.isEmpty_iff.mp E9
    have:=size_of_entries M3
    rw[h0] at this
    exact List.length_eq_zero_iff.mp (by simpa using this.symm)
   subst HZ
   have Nu:=hh rfl
   refine wpAny_bind (rh HQ yE (fun e he=>?_) (fun e he=>?_) ?_)
   ·rw[zB] at he
    obtain⟨y,hy,rfl⟩:=List.mem_map.mp he
    obtain⟨ob,h1,h2⟩:=Nj (J_ y hy)
    exact⟨y.2.1,rfl,ob,h1,h2⟩
   ·have:(vM.filter (·.hash==e.hash)).size=((ys.map fun y=>knd.hash y.1).filter (· ==e.hash)).length:=by
     rw[←Array.length_toList,Array.toList_filter,zB,List.filter_map,List.filter_map,List.length_map,List.length_map]
     rfl
    rw[this]
    have hc:=List.nodup_iff_count.mp Nu e.hash
    rw[List.count_eq_countP,List.countP_eq_length_filter] at hc
    exact hc
   ·have hm:cK ([]:List (K×Addr×Value)) ys=ys:=by
     rw[lJ ys [] (by simpa using rB)];rfl
    rw[hm] at hQ
    split
    ·have NJ:vM.size≤sizeLine+1:=by simp at hsz;omega
     refine wpAny_bind (wpAny_updateDictKeysTo yI mr (wpAny_pure (hQ _ ⟨_,_,MA+1,Heap.get?_update_self _ yI (Obj.isFreed_of_dict (Obj.data_mapDictKeys mr _)),vp.mapDictKeys _,Obj.data_mapDictKeys mr _,zB,fun x hx=>?_,rB⟩ (Heap.SameBut.update ..))) NJ)
     exact knd.keeps (J_ x hx) yI mr (Heap.SameBut.update ..)
    ·rename_i fm
     have h0:vM= #[]:=Array.isEmpty_iff.mp (by simpa using fm)
     have Np:ys=[]:=List.length_eq_zero_iff.mp (by rw[←hlen,h0];rfl)
     subst Np
     exact wpAny_pure (hQ _ hd (Heap.SameBut.refl _ _))
  ·exact go
 ·exact go
end
end L3
namespace L3
open PySem PySem.Spec L2
open PyProof.Rows hiding St
theorem D3{P:Program}{w:World}{h:Heap}{k:List Key}{a:Addr}(h1:(tupleKind (bf P w)).is h k a):∃ob,h.get? a=some ob∧ob.cls= .type "tuple":=by
 obtain⟨ob,aF,n,q1,q2,_⟩:=h1
 exact⟨ob,q1,q2⟩
def h7(au more:List (List Key×V)):List (List Key×V):=more.foldl (fun acc kv=>putK acc kv.1 kv.2) au
theorem xA{H:Hp}:∀{more:List (List Key×V)}{ys:List (List Key×Addr×Value)},KT H more ys→∀{au:List (List Key×V)}{xs:List (List Key×Addr×Value)},KT H au xs→KT H (h7 au more) (cK xs ys)
 |_,_, .nil,_,_,q=>q
 |_,_, .cons h t,au,xs,r=>by
  refine xA t ?_
  have:=KT.put r _ h.2.1 h.2.2
  rw[h.1] at this
  show KT H (putK au _ _) (storedH xs _ _ _)
  rw[h.1]
  exact this
theorem nY:∀(more au:List (List Key×V)),(h7 au more).length≤au.length+more.length
 |[],au=>Nat.le_refl _
 |p::r,au=>by
  have h1:=nY r (putK au p.1 p.2)
  have h2:=d9 au p.1 p.2
  show (h7 (putK au p.1 p.2) r).length≤_
  rw[List.length_cons];omega
def dN(k:List Int):Int:=reduceHash (Builtin.Tuple.tupleHashOf (k.map hashInt))
theorem Ak{P:Program}{w:World}(k:List Int):(tupleKind (bf P w)).hash (mw k)=dN k:=by
 show reduceHash (Builtin.Tuple.tupleHashOf ((mw k).map (Ic w)))=_
 unfold dN mw
 rw[List.map_map]
 rfl
section
variable{X:Cx}{pins:List (Addr×Obj)}{σ:St}{H:Hp}{s:Shared}{a b:Addr}{A:Around}{E:Value→Shared→Prop}
theorem z4{au more:List (List Key×V)}{ks:List (List Int)}{Q:Value→Shared→Prop}(hu:A.units+2<cLine)(I:Inv X pins σ H s)(ha:H a=some (.dT au))(hb:Rd H b (.dT more))(zA:a≠b)(hk:more.map (·.1)=ks.map mw)
 (hh:au=[]→(ks.map dN).Nodup)(hz:au.length+more.length≤sizeLine)(h:∀s',Inv X pins σ (upd H a (.dT (h7 au more))) s'→Q .none s'):
 wpAny (model X.prog X.w) A (call (.builtin "dict.update") [.ref a, .ref b]) Q E s:=by
 obtain⟨z1,lo1,xs,IT,Ln⟩:=z9 I.hok ha
 obtain⟨z2,N5,ys,DM,CA⟩:=nv I.hok hb
 have l1:=Paired.length IT
 have l2:=Paired.length DM
 have hT:=Ln.typeIs
 refine wpAny_call_entry PySem.F.slot_dict_update hT PySem.F.entry_dict_update ?_ (PySem.F.args_dict_update_2 _ _)
 unfold Builtin.«dict.update»
 refine wpAny_bind ?_
 unfold Builtin.Dict.selfAndRest
 refine wpAny_bind (wpAny_notOrdered_dict hT ?_)
 show wpAny _ _ (pure (a,[Value.ref b])) _ _ s
 refine wpAny_pure ?_
 show wpAny _ _ (Builtin.Dict.updateFrom "dict.update" a (.ref b) [] .none) _ _ s
 unfold Builtin.Dict.updateFrom
 refine wpAny_bind (wpAny_typeOf CA.typeIs ?_)
 rw[if_neg (by decide)]
 refine wpAny_bind ?_
 unfold Builtin.Dict.merge
 refine wpAny_bind ?_
 unfold Builtin.Dict.readDirectly
 refine wpAny_bind (wpAny_isInstance CA.typeIs isSubtype_dict_dict ?_)
 simp only[Bool.not_true,Bool.false_eq_true,if_false]
 refine wpAny_bind (wpAny_specialOf CA.typeIs PySem.F.slot_dict_iter.lookup (wpAny_pure ?_))
 simp only[beq_self_eq_true,if_true]
 refine wpAny_bind (wpAny_pure ?_)
 refine n8 (knd:=tupleKind (bf X.prog X.w)) (show A.in1.units<cLine by show A.units+1<cLine;omega) zA N5 Ln CA D3 (fun e0=>?_) (by omega) fun h' z5 tV=>?_
 ·have e1:au=[]:=List.length_eq_zero_iff.mp (by rw[l1,e0];rfl)
  have:=hh e1
  have e2:(ys.map fun y=>(tupleKind (bf X.prog X.w)).hash y.1)=ks.map dN:=by
   have e3:more.map (·.1)=ys.map (·.1):=l_ (fun _ _ r=>r.1) DM
   rw[show (fun y:List Key×Addr×Value=>(tupleKind (bf X.prog X.w)).hash y.1)=(tupleKind (bf X.prog X.w)).hash∘(·.1) from rfl,←List.map_map,←e3,hk,List.map_map]
   exact List.map_congr_left fun k _=>Ak k
  rw[e2];exact this
 ·show wpAny _ _ (Builtin.Dict.addKeywords a []>>=_) _ _ _
  refine wpAny_bind (wpAny_pure (wpAny_pure ⟨.none,rfl,h _ ?_⟩))
  obtain⟨q,es,ep,hq,h2,h3,h4,_,h5⟩:=z5
  have hl:(h7 au more).length≤sizeLine:=by have:=nY more au;omega
  refine jT I (t':=s.toks) (by rw[ha];exact True.intro) tV ⟨q,hq⟩ ⟨hl,lo1,_,(xA DM IT).keeps fun c ys ec=>?_,q,es,ep,hq,h2,h3,h4,h5⟩
  rw[ax (AN ec ha (fun z=>nomatch z))]
  exact ec
end
def bX(ks:List (List Key))(ds:List D):List (List Key)→List D→List (List Key)×List D
 |k::ks',d::ds'=>bX (cZ ks ds k) (ck ks ds k d) ks' ds'
 |_,_=>(ks,ds)
def B2(ks:List (List Key))(ds:List D):D→Option C
 | .dct ks' ds'=>match dS ks' with
   |some ns=>if ds.length+ds'.length≤lim∧(ks.isEmpty=true→(ns.map dN).Nodup) then some (.dct (bX ks ds ks' ds').1 (bX ks ds ks' ds').2) else none
   |none=>none
 |_=>none
theorem n5{K:W.Frag}{F:Hp}:∀{ks':List (List Key)}{ds':List D}{vs':List V}{ks:List (List Key)}{ds:List D}{vs:List V},DenL K F ds' vs'→ks'.length=ds'.length→DenL K F ds vs→ks.length=ds.length→
 ∃ws,h7 (ks.zip vs) (ks'.zip vs')=(bX ks ds ks' ds').1.zip ws∧DenL K F (bX ks ds ks' ds').2 ws∧(bX ks ds ks' ds').1.length=(bX ks ds ks' ds').2.length
 |[],[],vs',ks,ds,vs,h',_,h,hl=>⟨vs,rfl,h,hl⟩
 |k::ks',d::ds',vs',ks,ds,vs,⟨v,r,e,h1,h2⟩,Er,h,hl=>by
  subst e
  obtain⟨ws,e1,e2,e3⟩:=si (K:=K) (F:=F) h1 k h hl
  obtain⟨us,q1,q2,q3⟩:=n5 (ks':=ks') (ds':=ds') (vs':=r) h2 (by simpa using Er) e2 e3
  refine⟨us,?_,q2,q3⟩
  show h7 (putK (ks.zip vs) k v) (ks'.zip r)=_
  rw[e1]
  exact q1
 |[],_::_,_,_,_,_,_,Er,_,_=>by simp at Er
 |_::_,[],_,_,_,_,_,Er,_,_=>by simp at Er
theorem BA{κ:Type}[DecidableEq κ]{ks:List κ}{ds:List D}{k:κ}{d:D}(hl:ks.length=ds.length):(ck ks ds k d).length≤ds.length+1:=by
 unfold ck
 split
 ·rw[ix ks ds k d hl];omega
 ·simp
theorem BB{κ:Type}[DecidableEq κ]{ks:List κ}{ds:List D}{k:κ}{d:D}(hl:ks.length=ds.length):(cZ ks ds k).length=(ck ks ds k d).length:=by
 unfold ck cZ
 split
 ·rw[ix ks ds k d hl];exact hl
 ·simp[hl]
theorem n6:∀{ks':List (List Key)}{ds':List D}{ks:List (List Key)}{ds:List D},ks.length=ds.length→(bX ks ds ks' ds').2.length≤ds.length+ds'.length
 |[],ds',ks,ds,_=>by show ds.length≤_;omega
 |_::_,[],ks,ds,_=>by show ds.length≤_;simp
 |k::ks',d::ds',ks,ds,hl=>by
  have h1:=n6 (ks':=ks') (ds':=ds') (ks:=cZ ks ds k) (ds:=ck ks ds k d) (BB hl)
  have h2:=BA (k:=k) (d:=d) hl
  show (bX (cZ ks ds k) (ck ks ds k d) ks' ds').2.length≤_
  rw[List.length_cons];omega
section
variable{X:Cx}{Xw:Nat→Hp→Prop}{o e f:Expr}{δ δo δe δf:DE}{pos p apos bj:Pos}{x:Str}{i:Nat}
def uQ(i:Nat)(δ:DE):DS:=fun ρ=>match uB ρ i with
 |some (.dct ks ds)=>δ ρ>>=fun d=>match B2 ks ds d with
  |some c'=>M.ret (.nx (ρ.set i (some (.ow c'))))
  |none=>M.stuck
 |_=>M.stuck
theorem Gi{td ty:TE}(hu:X.A.units+2<cLine)(ho:PE X o td)(he:PE X e ty)(m:M1 X o "update" apos e bj):
 PE X (.Call (.Attribute o "update" apos) [e] [] bj) (fun σ H Q=>td σ H fun x H1=>∃a,x= .ref a∧Lh H1 a∧ty σ H1 fun y H2=>∃(b:Addr) (au more:List (List Key×V)) (ks:List (List Int)),y= .ref b∧H2 a=some (.dT au)∧Rd H2 b (.dT more)∧a≠b∧more.map (·.1)=ks.map mw∧(au=[]→(ks.map dN).Nodup)∧au.length+more.length≤sizeLine∧Q .non (upd H2 a (.dT (h7 au more)))):=by
 intro pins s σ H Q I h
 refine wpAny_Call_method m.base m.few m.line PySem.F.plainAttrs_dict PySem.F.slot_dict_update (by rfl) (cg (ho pins s σ H _ I h) fun u s1 ⟨x,H1,I1,rx,a,ex,d,q1⟩=>?_)
 subst ex
 obtain rfl:u=Value.ref a:=rx
 obtain⟨t1,t2,_⟩:=Fq I1 d
 refine⟨t1,t2,?_⟩
 rw[m.trees]
 refine Calls.callWith_builtin rfl (Calls.evalArgs_plain (Calls.spliced_cons (cg (he pins s1 σ H1 _ I1 q1) fun iv s2 ⟨y,H2,I2,ry,b,au,more,ks,ey,k1,k2,k3,k4,k5,k6,q2⟩=>Calls.spliced_nil ?_)))
 subst ey
 obtain rfl:iv=Value.ref b:=ry
 exact z4 hu I2 k1 k2 k3 k4 k5 k6 fun s3 I3=>⟨.non,_,I3,rfl,q2⟩
theorem xV(hu:X.A.units+64<cLine)(hv:PE X (.Name x p) (o6 i))(he:PD X Xw e δ)(m:M1 X (.Name x p) "update" apos e bj)(hs:swapsWith (.Call (.Attribute (.Name x p) "update" apos) [e] [] bj) none pos.line X.env=pure false:=by rfl):
 jR X Xw (.Expr (.Call (.Attribute (.Name x p) "update" apos) [e] [] bj) pos) (uQ i δ):=fun F₀ H₀=>PS.weak (mN (Gi (by omega) hv he m) hs) fun D σ H ⟨F,ρ,s,w⟩=>by
 unfold uQ at w
 split at w
 ·rename_i ks ds Jo
  have hi:=qu Jo
  obtain⟨v,Jr,a,oh,rfl,hH,hF,vs,rfl,hd,hl,hz⟩:=s.st.den i _ hi
  refine⟨.ref a,Jr,a,rfl, .inr ⟨_, .inl hH⟩,F,ρ,s.st,?_⟩
  rcases(δ ρ).cs with q | ⟨n,q⟩ | ⟨d,q⟩
  ·rw[q] at w;exact w.elim
  ·rw[q] at w⊢;exact fun F' H' e'=>w F' H' (s.ext.trans e')
  ·rw[q] at w⊢
   intro u H1 F1 e1 hq
   have w:WPS X.K Xw F₀ H₀ (match B2 ks ds d with | some c'=>M.ret (.nx (ρ.set i (some (.ow c')))) | none=>M.stuck) D:=w
   cases d with
   |dct ks' ds'=>
    obtain⟨b,ob,vs',rfl,k2,k3,k4,k5⟩:=hq
    cases hc:B2 ks ds (.dct ks' ds') with
    |none=>rw[hc] at w;exact w.elim
    |some c'=>
     rw[hc] at w
     have hc:(match dS ks' with | some ns=>if ds.length+ds'.length≤lim∧(ks.isEmpty=true→(ns.map dN).Nodup) then some (C.dct (bX ks ds ks' ds').1 (bX ks ds ks' ds').2) else none | none=>none)=some c':=hc
     cases hn:dS ks' with
     |none=>rw[hn] at hc;cases hc
     |some ns=>
      rw[hn] at hc
      have hc:(if ds.length+ds'.length≤lim∧(ks.isEmpty=true→(ns.map dN).Nodup) then some (C.dct (bX ks ds ks' ds').1 (bX ks ds ks' ds').2) else none)=some c':=hc
      split at hc
      ·rename_i HA
       cases hc
       have LJ:=DenL.mono e1.ff hd
       have l1:=LJ.len
       have l2:=k3.len
       have zA:a≠b:=fun z=>by
        have:=e1.old hH (fun _ z=>nomatch z)
        rw[hF,z,k2] at this
        cases this
       obtain⟨ws,m1,m2,m3⟩:=n5 k3 k4 LJ hl
       refine⟨b,ks.zip vs,ks'.zip vs',ns,rfl,e1.hh _ _ hH, .inr ⟨ob,e1.fh _ _ k2⟩,zA,by rw[gZ (by rw[k4];exact l2),iX hn],fun z=>HA.2 ?_,?_,?_⟩
       ·have:=gZ (a:=ks) (b:=vs) (by rw[hl];exact l1)
        rw[z] at this
        rw[←this];rfl
       ·rw[List.length_zip,List.length_zip]
        have:=e9
        omega
       ·rw[m1]
        exact w σ F1 _ ((s.ext' e1).chg (c₀:= .dct (bX ks ds ks' ds').1 (bX ks ds ks' ds').2) hi Jr ⟨ws,rfl,m2,m3,by have:=n6 (ks':=ks') (ds':=ds') hl;omega⟩)
      ·cases hc
   |_=>exact w.elim
 ·exact w.elim
end
section
variable{X:Cx}{Xw:Nat→Hp→Prop}{o e f:Expr}{δ δo δe δf:DE}{δs:DA}{pos p apos bj:Pos}{x:Str}{i:Nat}
end
section
variable{X:Cx}{Xw:Nat→Hp→Prop}{a b e ME:Expr}{δ δa δb δs:DE}{pos p2:Pos}
end
section
variable{prog:Program}{w:World}{A:Around}{E:Value→Shared→Prop}{s:Shared}
end
section
variable{prog:Program}{w:World}{A:Around}{E:Value→Shared→Prop}{s:Shared}
end
section
variable{prog:Program}{w:World}{A:Around}{E:Value→Shared→Prop}{s:Shared}
end
section
variable{X:Cx}{Xw:Nat→Hp→Prop}{a b e e2:Expr}{δa δb:DE}{δs:DA}{p pos:Pos}
end
mutual
def Ec:D→Bool
 | .non=>true
 | .bl _=>true
 | .int _=>true
 | .str _=>true
 | .tup ds=>tw ds
 | .lst ds=>tw ds
 | .raw _=>false
 | .exc _=>false
 | .scr _=>false
 | .dct _ _=>false
 | .dci _ _=>false
def tw:List D→Bool
 |[]=>true
 |d::ds=>Ec d&&tw ds
end
def uC(ρ:aY):Bool:=ρ.all fun x=>match x with
 |some (.ow (.lst _))=>false
 |_=>true
theorem A8{ρ:aY}{i:Nat}{ds:List D}(h:uC ρ=true)(e:ρ[i]? =some (some (.ow (.lst ds)))):False:=by
 have:=List.all_eq_true.mp h _ (List.mem_of_getElem? e)
 cases this
section
variable{K:W.Frag}{F H F' H':Hp}{σ:St}{ρ:aY}{h:Heap}{b:Addr}
theorem OwnAt.dict(S:StE K F H σ ρ)(hd:uC ρ=true)(p:OwnAt σ ρ b):∃o,H b=some o∧((∃x,o= .dT x)∨∃x,o= .dK x):=by
 obtain⟨i,c,h1,h2⟩:=p
 obtain⟨v,h3,a,o,rfl,h4,h5,h6⟩:=S.den i _ h1
 rw[h3] at h2
 cases h2
 refine⟨o,h4,?_⟩
 cases c with
 |lst ds=>exact(A8 hd h1).elim
 |dct ks ds=>obtain⟨vs,rfl,_⟩:=h6;exact .inl ⟨_,rfl⟩
 |dci ks ds=>obtain⟨vs,rfl,_⟩:=h6;exact .inr ⟨_,rfl⟩
open Classical in
theorem xF(S:StE K F H σ ρ)(hd:uC ρ=true)(E:Ext (fA σ ρ (refA h (OwnAt σ ρ) H) F) (refA h (OwnAt σ ρ) H) F' H'){a:Addr}{o:HO}(e:F' a=some o)(fm:∀q u,o≠ .frz q u):(if OwnAt σ ρ a then none else F' a)=some o:=by
 rw[if_neg,e]
 intro hp
 obtain⟨o',k1,k2⟩:=OwnAt.dict S hd hp
 have k3:fA σ ρ (refA h (OwnAt σ ρ) H) F a=some (mn ((h.get? a).getD {cls:= .none,data:= .fields #[]}) o'):=by
  unfold fA refA
  rw[if_pos hp,if_pos hp,k1]
  rfl
 have k4:=E.ff a _ k3
 rw[e] at k4
 rcases k2 with⟨x,rfl⟩ | ⟨x,rfl⟩<;>cases k4<;>exact fm _ _ rfl
open Classical in
mutual
theorem z6(S:StE K F H σ ρ)(hd:uC ρ=true)(E:Ext (fA σ ρ (refA h (OwnAt σ ρ) H) F) (refA h (OwnAt σ ρ) H) F' H'):∀{d:D}{v:V},Ec d=true→Den K F' d v→Den K (fun b=>if OwnAt σ ρ b then none else F' b) d v
 | .non,_,_,q=>q
 | .bl _,_,_,q=>q
 | .int _,_,_,q=>q
 | .str _,_,_,q=>q
 | .tup ds,_,f,⟨a,vs,h1,h2,h3,h4⟩=>⟨a,vs,h1,xF S hd E h2 (fun _ _ z=>nomatch z),kQ S hd E f h3,h4⟩
 | .lst ds,_,f,⟨a,vs,h1,h2,h3,h4⟩=>⟨a,vs,h1,xF S hd E h2 (fun _ _ z=>nomatch z),kQ S hd E f h3,h4⟩
 | .raw _,_,f,_=>by cases f
 | .exc _,_,f,_=>by cases f
 | .scr _,_,f,_=>by cases f
 | .dct _ _,_,f,_=>by cases f
 | .dci _ _,_,f,_=>by cases f
theorem kQ(S:StE K F H σ ρ)(hd:uC ρ=true)(E:Ext (fA σ ρ (refA h (OwnAt σ ρ) H) F) (refA h (OwnAt σ ρ) H) F' H'):∀{ds:List D}{vs:List V},tw ds=true→DenL K F' ds vs→DenL K (fun b=>if OwnAt σ ρ b then none else F' b) ds vs
 |[],_,_,q=>q
 |d::ds,_,f,⟨v,r,h1,h2,h3⟩=>by
  unfold tw at f
  rw[Bool.and_eq_true] at f
  exact⟨v,r,h1,z6 S hd E f.1 h2,kQ S hd E f.2 h3⟩
end
end
section
variable{X:Cx}{Xw:Nat→Hp→Prop}{e:Expr}{δ:DE}
end
def Je(δ:DE):DE:=fun ρ=>noex (δ (xk ρ))>>=nB
def yd(τ:DT):DT:=fun ρ=>noex (τ (xk ρ))
section
variable{X:Cx}{Xw:Nat→Hp→Prop}{st:Stmt}{τ:DS}{is:List Nat}
end
section
variable{X:Cx}{Xw:Nat→Hp→Prop}{a b e o:Expr}{δ δa δb δo:DE}{δl:DA}{pos apos bj:Pos}
theorem yc{x y:Str}(h:x.cps.toList=y.cps.toList):x=y:=by
 obtain⟨⟨a⟩⟩:=x
 obtain⟨⟨b⟩⟩:=y
 cases (show a=b from h)
 rfl
end
section
variable{X:Cx}{Xw:Nat→Hp→Prop}{e:Expr}{δs:DA}{pos p:Pos}
end
section
variable{X:Cx}{Xw:Nat→Hp→Prop}{a b e o k v k' v':Expr}{δ δa δb δo δk δv δk' δv':DE}{δl δs:DA}{pos apos bj p:Pos}
end
section
variable{X:Cx}{Xw:Nat→Hp→Prop}{a b e:Expr}{δ δa δb:DE}{δs:DA}{pos p:Pos}
theorem jQ:∀{xs:List V}{us:List Value},xs.length=us.length→(∀(i:Nat) x u,xs[i]? =some x→us[i]? =some u→RelV x u)→Vals xs us
 |[],[],_,_=> .nil
 |x::xs,u::us,hl,h=> .cons (h 0 x u rfl rfl) (jQ (by simpa using hl) fun i y v e1 e2=>h (i+1) y v (by simpa using e1) (by simpa using e2))
end
end L3
namespace L3
open PySem PySem.SetTable
theorem qr{α:Type}[DecidableEq α]:∀{l U:List α},l.Nodup→(∀x∈l,x∈U)→l.length≤U.length
 |[],_,_,_=>Nat.zero_le _
 |a::l,U,hn,h=>by
  have ha:=h a (List.mem_cons_self ..)
  have CN:=List.nodup_cons.mp hn
  have:=qr (l:=l) (U:=U.erase a) CN.2 fun x hx=>(List.mem_erase_of_ne (fun e:x=a=>CN.1 (e▸hx))).mpr (h x (List.mem_cons_of_mem _ hx))
  rw[List.length_erase_of_mem ha] at this
  have:0<U.length:=List.length_pos_of_mem ha
  rw[List.length_cons]
  omega
def iK(m b:Nat):Nat→Nat×Nat
 |0=>(b % (m+1),b)
 |k+1=>leap m (iK m b k).1 (iK m b k).2
def G1(m i:Nat):Nat:=(i*5+1) % (m+1)
def it(m:Nat):Nat→Nat→Nat
 |0,x=>x
 |n+1,x=>G1 m (it m n x)
theorem nU(m:Nat):∀a b x,it m (a+b) x=it m a (it m b x)
 |0,b,x=>by rw[Nat.zero_add];rfl
 |a+1,b,x=>by rw[Nat.add_right_comm];show G1 m _=G1 m _;rw[nU m a b x]
theorem H9(m b:Nat):∀k,(iK m b k).2=b / 32 ^ k
 |0=>by simp[iK]
 |k+1=>by
  show (iK m b k).2 / 32=_
  rw[H9 m b k,Nat.div_div_eq_div_mul,Nat.pow_succ]
theorem xp{m b:Nat}(hb:b<2 ^ 64):∀k,(iK m b (k+13)).1=it m k (iK m b 13).1
 |0=>by rw[Nat.zero_add];rfl
 |k+1=>by
  rw[Nat.add_right_comm]
  have hq:(iK m b (k+13)).2 / 32=0:=by
   rw[H9]
   refine Nat.div_eq_of_lt ?_
   refine Nat.lt_of_le_of_lt (m:=b / 32 ^ 13) ?_ ?_
   ·rw[Nat.pow_add,Nat.mul_comm,←Nat.div_div_eq_div_mul]
    exact Nat.div_le_self ..
   ·have:b / 32 ^ 13<1:=Nat.div_lt_of_lt_mul (by omega)
    omega
  show ((iK m b (k+13)).1*5+1+(iK m b (k+13)).2 / 32) % (m+1)=G1 m _
  rw[hq,xp hb k]
  rfl
def B5(m:Nat):Prop:=m=7∨m=31∨m=127
def KQ(m:Nat):Nat→Nat→List Nat
 |0,_=>[]
 |n+1,x=>x::KQ m n (G1 m x)
theorem wk(m:Nat):∀(n x j:Nat),j∈KQ m n x→∃a,a<n∧it m a x=j
 |0,x,j,h=>by cases h
 |n+1,x,j,h=>by
  rcases List.mem_cons.mp h with rfl | h
  ·exact⟨0,by omega,rfl⟩
  ·obtain⟨a,ha,e⟩:=wk m n (G1 m x) j h
   exact⟨a+1,by omega,by rw[nU m a 1 x];exact e⟩
theorem Dk{m:Nat}(hm:B5 m):(∀j,j<m+1→j∈KQ m (m+1) 0)∧it m (m+1) 0=0:=by
 rcases hm with rfl | rfl | rfl
 ·exact⟨by decide+kernel,by decide+kernel⟩
 ·exact⟨by decide+kernel,by decide+kernel⟩
 ·exact⟨by decide+kernel,by decide+kernel⟩
theorem Mu{m:Nat}(hm:B5 m){i j:Nat}(hi:i<m+1)(hj:j<m+1):∃n,n≤m∧it m n i=j:=by
 obtain⟨h1,h2⟩:=Dk hm
 obtain⟨a,ha,rfl⟩:=wk m _ 0 i (h1 i hi)
 obtain⟨b,hb,rfl⟩:=wk m _ 0 j (h1 j hj)
 by_cases h:a≤b
 ·exact⟨b - a,by omega,by rw[←nU,Nat.sub_add_cancel h]⟩
 ·refine⟨m+1 - a+b,by omega,?_⟩
  rw[←nU,show m+1 - a+b+a=b+(m+1) by omega,nU,h2]
theorem H8(m b k:Nat):(iK m b k).1<m+1:=by
 cases k with
 |zero=>exact Nat.mod_lt _ (by omega)
 |succ k=>exact Nat.mod_lt _ (by omega)
theorem reach{m b:Nat}(hm:B5 m)(hb:b<2 ^ 64){j:Nat}(hj:j<m+1):∃k,k≤m+13∧(iK m b k).1=j:=by
 obtain⟨n,hn,e⟩:=Mu hm (H8 m b 13) hj
 exact⟨n+13,by omega,by rw[xp hb,e]⟩
theorem w9(h:Int):bits h<2 ^ 64:=by
 unfold bits
 have h1:=Int.emod_nonneg h (show (2 ^ 64:Int)≠0 by decide)
 have h2:=Int.emod_lt_of_pos h (show (0:Int)<2 ^ 64 by decide)
 omega
def B6(t:SetTable):Nat→Probe→Probe
 |0,p=>p
 |n+1,p=>B6 t n (t.advance p)
theorem yj(t:SetTable)(p:Probe):(t.advance p).dummy=p.dummy:=by
 unfold advance
 split<;>rfl
theorem qS(t:SetTable):∀a b p,B6 t (a+b) p=B6 t b (B6 t a p)
 |0,b,p=>by rw[Nat.zero_add];rfl
 |a+1,b,p=>by rw[Nat.add_right_comm];exact qS t a b _
def sK(m:Nat)(h:Int)(k:Nat):Probe:={j:=(iK m (bits h) k).1,more:=runEnd m (iK m (bits h) k).1 - (iK m (bits h) k).1,i:=(iK m (bits h) k).1,perturb:=(iK m (bits h) k).2,dummy:=none}
theorem GA(m i:Nat):runEnd m i - i≤9:=by
 unfold runEnd
 split<;>omega
theorem zK(t:SetTable):∀(n:Nat) (p:Probe),n≤p.more→B6 t n p={p with j:=p.j+n,more:=p.more - n}
 |0,p,_=>rfl
 |n+1,p,h=>by
  show B6 t n (t.advance p)=_
  have e:t.advance p={p with j:=p.j+1,more:=p.more - 1}:=by unfold advance;rw[if_pos (by omega)]
  rw[e,zK t n _ (by show n≤p.more - 1;omega)]
  show ({j:=p.j+1+n,more:=p.more - 1 - n,i:=p.i,perturb:=p.perturb,dummy:=p.dummy}:Probe)=_
  rw[Nat.add_assoc,Nat.add_comm 1 n,Nat.sub_sub,Nat.add_comm 1 n]
theorem zL{t:SetTable}{h:Int}{k:Nat}:B6 t ((sK t.mask h k).more+1) (sK t.mask h k)=sK t.mask h (k+1):=by
 rw[qS,zK t _ _ (Nat.le_refl _)]
 show t.advance _=_
 unfold advance
 rw[if_neg (show¬(sK t.mask h k).more - (sK t.mask h k).more>0 by rw[Nat.sub_self];exact Nat.lt_irrefl 0)]
 rfl
theorem zM{t:SetTable}{h:Int}:∀k,∃n,n≤10*k∧B6 t n (t.probeStart h)=sK t.mask h k
 |0=>⟨0,Nat.zero_le _,rfl⟩
 |k+1=>by
  obtain⟨n,hn,e⟩:=zM (t:=t) (h:=h) k
  have:=GA t.mask (iK t.mask (bits h) k).1
  refine⟨n+((sK t.mask h k).more+1),?_,by rw[qS,e,zL]⟩
  show n+(runEnd t.mask (iK t.mask (bits h) k).1 - (iK t.mask (bits h) k).1+1)≤_
  omega
theorem xl{t:SetTable}{hashAt:Nat→Int}{h:Int}(hd:∀j,t.slot j≠ .dummy)(hh:∀j i,t.slot j= .live i→(hashAt i==h)=false):
 ∀(n fuel:Nat) (p:Probe),n<fuel→p.dummy=none→t.slot (B6 t n p).j= .empty→∃j,probe.go t hashAt h fuel p=some (.empty j none)∧t.slot j= .empty
 |n,0,p,hn,_,_=>absurd hn (by omega)
 |n,fuel+1,p,hn,hp,he=>by
  unfold probe.go
  cases hs:t.slot p.j with
  |empty=>exact⟨p.j,by rw[hp],hs⟩
  |dummy=>exact absurd hs (hd _)
  |live i=>
   dsimp only
   rw[hh p.j i hs]
   cases n with
   |zero=>rw[show (B6 t 0 p).j=p.j from rfl,hs] at he;cases he
   |succ n=>
    have:=xl hd hh n fuel (t.advance p) (by omega) (by rw[yj];exact hp) he
    simpa using this
theorem qM{t:SetTable}{j i:Nat}(h:t.slot j= .live i):t.place[i]? =some j:=by
 unfold slot at h
 dsimp only at h
 split at h
 ·rename_i e
  cases h
  exact eq_of_beq e
 ·split at h<;>cases h
theorem kF{t:SetTable}(hd:t.dummies= #[])(j:Nat):t.slot j≠ .dummy:=by
 unfold slot
 dsimp only
 split
 ·exact fun z=>by cases z
 ·split
  ·rename_i e
   rw[hd] at e
   unfold has at e
   simp at e
  ·exact fun z=>by cases z
theorem wC{t:SetTable}(hd:t.dummies= #[])(hp:t.place.size≤t.mask):∃j,j<t.mask+1∧t.slot j= .empty:=by
 apply Classical.byContradiction
 intro rB
 have:∀j∈List.range (t.mask+1),j∈t.place.toList:=fun j hj=>by
  cases hs:t.slot j with
  |empty=>exact absurd ⟨j,List.mem_range.mp hj,hs⟩ rB
  |dummy=>exact absurd hs (kF hd j)
  |live i=>exact List.mem_of_getElem? ((Array.getElem?_toList ..).trans (qM hs))
 have:=qr List.nodup_range this
 rw[List.length_range,Array.length_toList] at this
 omega
theorem wx{t:SetTable}{hashAt:Nat→Int}{h:Int}(hm:B5 t.mask)(hd:t.dummies= #[])(hp:t.place.size≤t.mask)(hh:∀i,i<t.place.size→(hashAt i==h)=false):
 ∃j,t.probe hashAt h (t.probeStart h)=some (.empty j none)∧t.slot j= .empty:=by
 obtain⟨j,hj,he⟩:=wC hd hp
 obtain⟨k,hk,e⟩:=reach hm (w9 h) hj
 obtain⟨n,hn,ea⟩:=zM (t:=t) (h:=h) k
 refine xl (kF hd) (fun j i hs=>hh i ?_) n _ _ (by unfold turns;omega) rfl (by rw[ea];show t.slot (iK t.mask (bits h) k).1=_;rw[e];exact he)
 obtain⟨hi,_⟩:=Array.getElem?_eq_some_iff.mp (qM hs)
 exact hi
def vals(o:Array (Option Nat))(n:Nat):List Nat:=(List.range n).filterMap fun j=>o.getD j none
theorem Ae{α β:Type}[DecidableEq α]{f g:α→Option β}{a:α}{b:β}(h0:f a=none)(h1:g a=some b):∀{l:List α},l.Nodup→a∈l→(∀x∈l,x≠a→g x=f x)→(l.filterMap g).Perm (b::l.filterMap f)
 |[],_,h,_=>by cases h
 |x::l,hn,h,hg=>by
  have CN:=List.nodup_cons.mp hn
  by_cases e:x=a
  ·subst e
   rw[List.filterMap_cons_some h1,List.filterMap_cons_none h0]
   have:l.filterMap g=l.filterMap f:=nG fun y hy=>hg y (List.mem_cons_of_mem _ hy) fun z=>CN.1 (z▸hy)
   rw[this]
  ·have ih:=Ae h0 h1 CN.2 ((List.mem_cons.mp h).resolve_left fun z=>e z.symm) fun y hy=>hg y (List.mem_cons_of_mem _ hy)
   have hx:=hg x (List.mem_cons_self ..) e
   cases hf:f x with
   |none=>rw[List.filterMap_cons_none (hx.trans hf),List.filterMap_cons_none hf];exact ih
   |some y=>rw[List.filterMap_cons_some (hx.trans hf),List.filterMap_cons_some hf];exact(ih.cons y).trans (List.Perm.swap ..)
theorem p9{m:Nat}{o:Array (Option Nat)}{b:Nat}:∀(n fuel k:Nat),n<fuel→(o.getD (iK m b (k+n)).1 (some 0)).isNone=true→∃j,layClean.free m o fuel (iK m b k).1 (iK m b k).2=some j∧(o.getD j (some 0)).isNone=true
 |n,0,k,h,_=>absurd h (by omega)
 |n,fuel+1,k,h,he=>by
  unfold layClean.free
  cases hf:(List.range (runEnd m (iK m b k).1+1 - (iK m b k).1)).find? fun q=>(o.getD ((iK m b k).1+q) (some 0)).isNone with
  |some q=>exact⟨_,rfl,List.find?_some (p:=fun q=>(o.getD ((iK m b k).1+q) (some 0)).isNone) hf⟩
  |none=>
   cases n with
   |zero=>
    have:=List.find?_eq_none.mp hf 0 (List.mem_range.mpr (by unfold runEnd;split<;>omega))
    rw[Nat.add_zero] at this he
    exact absurd he this
   |succ n=>
    exact p9 n fuel (k+1) (by omega) (by rw[Nat.add_right_comm];exact he)
theorem vV{o:Array (Option Nat)}{j:Nat}(h:(o.getD j (some 0)).isNone=true):j<o.size∧o[j]? =some none:=by
 rw[Array.getD_eq_getD_getElem?] at h
 cases e:o[j]? with
 |none=>rw[e] at h;cases h
 |some v=>
  rw[e] at h
  cases v with
  |none=>exact⟨(Array.getElem?_eq_some_iff.mp e).1,rfl⟩
  |some v=>cases h
theorem AF{m:Nat}(hm:B5 m){o:Array (Option Nat)}{h:Int}{k:Nat}(hs:o.size=m+1)(hp:(vals o (m+1)).Perm (List.range k))(hk:k≤m):
 ∃j,layClean.free m o (turns m) (bits h % (m+1)) (bits h)=some j∧(o.setIfInBounds j (some k)).size=m+1∧(vals (o.setIfInBounds j (some k)) (m+1)).Perm (List.range (k+1)):=by
 obtain⟨j0,Nd,Jl⟩:∃j,j<m+1∧o.getD j none=none:=by
  apply Classical.byContradiction
  intro rB
  have all:∀l:List Nat,(∀j∈l,j<m+1)→(l.filterMap fun j=>o.getD j none).length=l.length:=by
   intro l
   induction l with
   |nil=>exact fun _=>rfl
   |cons a l ih=>
    intro h
    cases e:o.getD a none with
    |none=>exact absurd ⟨a,h a (List.mem_cons_self ..),e⟩ rB
    |some v=>rw[List.filterMap_cons_some (f:=fun j=>o.getD j none) e,List.length_cons,List.length_cons,ih fun j hj=>h j (List.mem_cons_of_mem _ hj)]
  have h1:=hp.length_eq
  rw[vals,all _ fun j hj=>List.mem_range.mp hj,List.length_range,List.length_range] at h1
  omega
 have MZ:(o.getD j0 (some 0)).isNone=true:=by
  rw[Array.getD_eq_getD_getElem?] at Jl⊢
  rw[Array.getElem?_eq_getElem (by omega)] at Jl⊢
  rw[Option.getD_some] at Jl⊢
  rw[Jl]
  rfl
 obtain⟨q,hq,e⟩:=reach hm (w9 h) Nd
 obtain⟨j,ej,hj⟩:=p9 (m:=m) (o:=o) (b:=bits h) q (turns m) 0 (by unfold turns;omega) (by rw[Nat.zero_add,e];exact MZ)
 obtain⟨dO,rz⟩:=vV hj
 refine⟨j,ej,by rw[Array.size_setIfInBounds];exact hs,?_⟩
 have hP:=Ae (f:=fun i=>o.getD i none) (g:=fun i=>(o.setIfInBounds j (some k)).getD i none) (a:=j) (b:=k) (by
  show o.getD j none=none
  rw[Array.getD_eq_getD_getElem?,rz]
  rfl) (by
  show (o.setIfInBounds j (some k)).getD j none=some k
  rw[Array.getD_eq_getD_getElem?,Array.getElem?_setIfInBounds_self_of_lt dO]
  rfl) (l:=List.range (m+1)) List.nodup_range (List.mem_range.mpr (by omega)) fun x _ hx=>by
  show (o.setIfInBounds j (some k)).getD x none=o.getD x none
  rw[Array.getD_eq_getD_getElem?,Array.getD_eq_getD_getElem?,Array.getElem?_setIfInBounds_ne (fun z=>hx z.symm)]
 refine hP.trans ((hp.cons k).trans ?_)
 rw[List.range_succ (n:=k)]
 exact List.perm_append_comm (l₁:=[k])
theorem xu{m:Nat}(hm:B5 m):∀(hs:List Int) (o:Array (Option Nat)) (k:Nat),o.size=m+1→(vals o (m+1)).Perm (List.range k)→k+hs.length≤m→
 ∃o',(hs.foldl (init:=some (o,k)) fun acc h=>do
  let (owner,k)←acc
  let j←layClean.free m owner (turns m) (bits h % (m+1)) (bits h)
  pure (owner.setIfInBounds j (some k),k+1))=some (o',k+hs.length)∧(vals o' (m+1)).Perm (List.range (k+hs.length))
 |[],o,k,h1,h2,h3=>⟨o,rfl,h2⟩
 |h::hs,o,k,h1,h2,h3=>by
  rw[List.length_cons] at h3
  obtain⟨j,ej,e1,e2⟩:=AF hm (h:=h) h1 h2 (by omega)
  obtain⟨o',e3,e4⟩:=xu hm hs _ (k+1) e1 e2 (by omega)
  rw[List.length_cons,show k+(hs.length+1)=k+1+hs.length by omega]
  refine⟨o',?_,e4⟩
  rw[List.foldl_cons,←e3]
  congr 1
  show (layClean.free m o (turns m) (bits h % (m+1)) (bits h)>>=_)=_
  rw[ej]
  rfl
theorem wK(m:Nat):vals (Array.replicate (m+1) none) (m+1)=[]:=by
 unfold vals
 refine List.filterMap_eq_nil_iff.mpr fun j hj=>?_
 rw[Array.getD_eq_getD_getElem?,Array.getElem?_replicate]
 split<;>rfl
theorem C2{m f mv:Nat}{led pl:Bool}(hm:B5 m){hs:Array Int}(hl:hs.size≤m):
 ∃t order,laid m f mv led pl hs=some (t,order)∧t.mask=m∧t.dummies= #[]∧t.place.size=hs.size∧order.toList.Perm (List.range hs.size)∧t.plain=pl∧t.led=led∧t.place.toList.Pairwise (· < ·):=by
 obtain⟨o,e1,e2⟩:=xu hm hs.toList (Array.replicate (m+1) none) 0 (by simp) (by rw[wK];exact .refl _) (by rw[Nat.zero_add,Array.length_toList];exact hl)
 rw[Nat.zero_add,Array.length_toList] at e1 e2
 have e3:layClean m hs=some o:=by
  unfold layClean
  rw[←Array.foldl_toList,e1]
  rfl
 have e4:((List.range (m+1)).filterMap fun j=>(o.getD j none).map (j,·)).map (·.2)=vals o (m+1):=by
  unfold vals
  rw[List.map_filterMap]
  refine nG fun j _=>?_
  cases o.getD j none<;>rfl
 refine⟨_,_,by unfold laid;rw[e3];rfl,rfl,rfl,?_,?_,rfl,rfl,?_⟩
 ·show ((((List.range (m+1)).filterMap fun j=>(o.getD j none).map (j,·)).map (·.1)).toArray).size=_
  rw[List.size_toArray,List.length_map,←List.length_map (f:=(·.2)),e4,e2.length_eq,List.length_range]
 ·show ((((List.range (m+1)).filterMap fun j=>(o.getD j none).map (j,·)).map (·.2)).toArray).toList.Perm _
  rw[e4]
  exact e2
 ·show ((((List.range (m+1)).filterMap fun j=>(o.getD j none).map (j,·)).map (·.1)).toArray).toList.Pairwise (· < ·)
  have:∀l:List Nat,((l.filterMap fun j=>(o.getD j none).map (j,·)).map (·.1)).Sublist l:=by
   intro l
   induction l with
   |nil=>exact .slnil
   |cons a l ih=>
    cases e:o.getD a none with
    |none=>rw[List.filterMap_cons_none (f:=fun j=>(o.getD j none).map (j,·)) (by show (o.getD a none).map (a,·)=none;rw[e];rfl)];exact ih.cons a
    |some v=>rw[List.filterMap_cons_some (f:=fun j=>(o.getD j none).map (j,·)) (b:=(a,v)) (by show (o.getD a none).map (a,·)=some (a,v);rw[e];rfl)];exact ih.cons₂ a
  exact List.Pairwise.sublist (this _) List.pairwise_lt_range
theorem mV{xs:Array Nat}(hs:xs.toList.Pairwise (· < ·)){j:Nat}:∀(fuel lo hi:Nat),lo≤hi→hi≤xs.size→hi - lo≤fuel→(∀i (h:i<xs.size),i<lo→xs[i]<j)→(∀i (h:i<xs.size),hi≤i→j≤xs[i])→
 below.go xs j fuel lo hi≤xs.size∧(∀i (h:i<xs.size),i<below.go xs j fuel lo hi→xs[i]<j)∧∀i (h:i<xs.size),below.go xs j fuel lo hi≤i→j≤xs[i]
 |0,lo,hi,h1,h2,h3,h4,h5=>by
  have:lo=hi:=by omega
  subst this
  exact⟨h2,h4,h5⟩
 |fuel+1,lo,hi,h1,h2,h3,h4,h5=>by
  have mono:∀i k (hk:k<xs.size) (h:i<k),xs[i]'(by omega)<xs[k]:=fun i k hk h=>by
   have:=List.pairwise_iff_getElem.mp hs i k (by simpa using (by omega:i<xs.size)) (by simpa using hk) h
   simpa using this
  unfold below.go
  by_cases dO:lo<hi
  ·rw[if_pos dO]
   dsimp only
   have hm:(lo+hi) / 2<xs.size:=by omega
   have hg:xs.getD ((lo+hi) / 2) j=xs[(lo+hi) / 2]:=by rw[Array.getD_eq_getD_getElem?,Array.getElem?_eq_getElem hm];rfl
   rw[hg]
   by_cases hc:xs[(lo+hi) / 2]<j
   ·rw[if_pos hc]
    refine mV hs fuel _ hi (by omega) h2 (by omega) (fun i h sW=>?_) h5
    by_cases e:i=(lo+hi) / 2
    ·subst e;exact hc
    ·exact Nat.lt_trans (mono i _ hm (by omega)) hc
   ·rw[if_neg hc]
    refine mV hs fuel lo _ (by omega) (by omega) (by omega) h4 fun i h sW=>?_
    by_cases e:i=(lo+hi) / 2
    ·subst e;omega
    ·have:=mono _ i h (by omega:(lo+hi) / 2<i)
     omega
  ·rw[if_neg dO]
   have:lo=hi:=by omega
   subst this
   exact⟨h2,h4,h5⟩
theorem mW{xs:Array Nat}(hs:xs.toList.Pairwise (· < ·))(j:Nat):below xs j≤xs.size∧(∀i (h:i<xs.size),i<below xs j→xs[i]<j)∧∀i (h:i<xs.size),below xs j≤i→j≤xs[i]:=
 mV hs xs.size 0 xs.size (Nat.zero_le _) (Nat.le_refl _) (by omega) (fun i h hi=>absurd hi (by omega)) fun i h hi=>absurd h (by omega)
theorem BH{t:SetTable}{j:Nat}(hs:t.place.toList.Pairwise (· < ·))(h:t.slot j= .empty):(insertAt t.place (below t.place j) j).toList.Pairwise (· < ·):=by
 obtain⟨h1,h2,h3⟩:=mW hs j
 have fm:t.place[below t.place j]? ≠some j:=fun z=>by
  unfold slot at h
  dsimp only at h
  rw[z,beq_self_eq_true] at h
  cases h
 rw[toList_insertAt]
 have tV:=hs
 rw[←List.take_append_drop (below t.place j) t.place.toList,List.pairwise_append] at tV
 obtain⟨q1,q2,q3⟩:=tV
 have lo:∀a∈t.place.toList.take (below t.place j),a<j:=fun a ha=>by
  obtain⟨i,hi,e⟩:=List.mem_take_iff_getElem.mp ha
  have sW:i<t.place.size:=by simp at hi;omega
  have:=h2 i sW (by omega)
  rw[←e]
  simpa using this
 have hi:∀a∈t.place.toList.drop (below t.place j),j<a:=fun a ha=>by
  obtain⟨i,hi,e⟩:=List.mem_drop_iff_getElem.mp ha
  have sW:below t.place j+i<t.place.size:=by
   have:i+below t.place j<t.place.size:=by simpa using hi
   omega
  have:=h3 _ sW (by omega)
  have e':t.place[below t.place j+i]=a:=by simpa using e
  rw[e'] at this
  refine Nat.lt_of_le_of_ne this fun z=>?_
  subst z
  by_cases i0:i=0
  ·subst i0
   refine fm ?_
   rw[Array.getElem?_eq_getElem (by simpa using sW)]
   exact congrArg some (by simpa using e')
  ·have h0:below t.place j<t.place.size:=by omega
   have m1:=h3 _ h0 (Nat.le_refl _)
   have m2:=List.pairwise_iff_getElem.mp hs (below t.place j) (below t.place j+i) (by simpa using h0) (by simpa using sW) (by omega)
   have m2:t.place[below t.place j]<t.place[below t.place j+i]:=by simpa using m2
   omega
 refine List.pairwise_append.mpr ⟨q1,List.pairwise_cons.mpr ⟨hi,q2⟩,fun a ha b hb=>?_⟩
 rcases List.mem_cons.mp hb with rfl | hb
 ·exact lo a ha
 ·exact q3 a ha b hb
def slotAt(xs:Array Nat):Nat→Nat
 |0=>0
 |k+1=>xs.getD k 0+1
theorem below_at{xs:Array Nat}(hs:xs.toList.Pairwise (· < ·)):∀{k:Nat},k≤xs.size→below xs (slotAt xs k)=k
 |0,_=>by
  obtain⟨h1,h2,_⟩:=mW hs 0
  show below xs 0=0
  cases e:below xs 0 with
  |zero=>rfl
  |succ p=>
   rw[e] at h1 h2
   exact absurd (h2 0 (by omega) (by omega)) (by omega)
 |k+1,hk=>by
  have hg:xs.getD k 0=xs[k]:=by rw[Array.getD_eq_getD_getElem?,Array.getElem?_eq_getElem (by omega)];rfl
  show below xs (xs.getD k 0+1)=k+1
  rw[hg]
  obtain⟨h1,h2,h3⟩:=mW hs (xs[k]+1)
  have a1:¬below xs (xs[k]+1)≤k:=fun z=>by have:=h3 k (by omega) z;omega
  have a2:¬k+1<below xs (xs[k]+1):=fun z=>by
   have dO:k+1<xs.size:=by omega
   have m1:=h2 (k+1) dO z
   have m2:=List.pairwise_iff_getElem.mp hs k (k+1) (by simpa using (by omega:k<xs.size)) (by simpa using dO) (by omega)
   have m2:xs[k]<xs[k+1]:=by simpa using m2
   omega
  omega
structure TabOk (t:SetTable) (n:Nat) (ld:Bool):Prop where
 OE:B5 t.mask
 size:t.place.size=n
 dum:t.dummies= #[]
 room:5*n<3*t.mask
 plain:t.plain=true
 led:t.led=ld
 rise:t.place.toList.Pairwise (· < ·)
theorem TabOk.fits{t:SetTable}{n:Nat}{ld:Bool}(h:TabOk t n ld):t.fits n=true:=by
 unfold SetTable.fits fill
 rw[h.dum,h.size]
 have:=h.room
 simp
 omega
def SetH(ld:Bool)(h:Heap)(a:Addr)(xs:List (Int×Value)):Prop:=∃o es ep t,h.get? a=some o∧o.ExactSet∧o.data= .set es ep t∧es.toList.Perm xs∧TabOk t es.size ld
theorem jz{α:Type}(xs:Array α)(p:Nat)(x:α):(insertAt xs p x).size=xs.size+1:=by
 have:=(insertAt_perm xs p x).length_eq
 simpa using this
section
variable{prog:Program}{w:World}{A:Around}{E:Value→Shared→Prop}{s:Shared}
theorem jZ{ks:List Int}{b:Addr}{Q:Bool→Shared→Prop}(hk:IsTupleKey (intKind prog w) s.heap ks b)(h:Q true s):wpAny (model prog w) A (hashByValue 8 (.ref b)) Q E s:=by
 have hT:=hk.typeIs
 obtain⟨o,items,n,ho,_,hd,hi⟩:=hk
 unfold hashByValue
 refine wpAny_bind (wpAny_specialOf hT F.slot_tuple_hash.lookup ?_)
 dsimp only
 refine wpAny_bind (wpAny_seqItems ho hd ?_)
 refine wpAny_bind ?_
 show wpAny _ _ (forIn items _ _) _ _ s
 rw[←Array.forIn_toList]
 refine wpAny_forIn_list _ (fun rest r s'=>r.1=none∧s'=s∧∃ks',ItemsAre (intKind prog w) ks' rest) _ ?_ ?_ _ _ ⟨rfl,rfl,ks,hi⟩
 ·rintro v rest r s' ⟨hr,rfl,ks',hl⟩
  cases hl with
  | @cons k v N1 vs h1 h2=>
    have hv:hashByValue 7 v=pure true:=by
     cases v<;>first | rfl | (exact absurd h1 (by simp[intKind,Value.isInt]))
    rw[hv]
    refine wpAny_bind (wpAny_pure ?_)
    simp only[Bool.not_true,Bool.false_eq_true,if_false]
    exact wpAny_pure ⟨rfl,rfl,_,h2⟩
 ·rintro⟨r1,r2⟩ s' ⟨hr,rfl,_⟩
  simp only at hr
  subst hr
  exact wpAny_pure h
theorem pM{a b:Addr}{hk:Int}{o:Obj}{es:Array (Int×Value)}{ep:Nat}{t:SetTable}{Q:SetFound→Shared→Prop}(ho:s.heap.get? a=some o)(hd:o.data= .set es ep t){ld:Bool}(ht:TabOk t es.size ld)(Fg:∀e∈es.toList,e.1≠hk)
 (h:∀j,t.slot j= .empty→Q (.free j false) s):wpAny (model prog w) A (setSearch a (.ref b) hk true) Q E s:=by
 have hf:=ht.fits
 obtain⟨hm,nO,J3,h5,_,_,_⟩:=ht
 have M_:t.gaveWay=false:=by
  unfold SetTable.gaveWay
  rcases hm with e | e | e<;>rw[e]<;>rfl
 obtain⟨j,ej,hj⟩:=wx (t:=t) (hashAt:=fun i=>(es[i]?.map (·.1)).getD 0) (h:=hk) hm J3 (by omega) fun i hi=>by
  rw[Array.getElem?_eq_getElem (by omega)]
  refine beq_eq_false_iff_ne.mpr fun z=>Fg (es[i]'(by omega)) (by rw[←Array.getElem_toList];exact List.getElem_mem _) z
 unfold setSearch setSearchFrom
 refine wpAny_bind (wpAny_setState_of ho hd hf ?_)
 dsimp only
 rw[M_]
 simp only[Bool.false_eq_true,↓reduceIte]
 refine wpAny_bind (wpAny_pure ?_)
 split
 ·rename_i met heq
  have e:met= .empty j none:=Option.some.inj (heq.symm.trans ej)
  subst e
  exact wpAny_pure (h j hj)
 ·rename_i rB
  exact absurd ej (rB _)
theorem uX{a:Addr}{o:Obj}{es:Array (Int×Value)}{ep n:Nat}{t:SetTable}{Q:Unit→Shared→Prop}(ho:s.heap.get? a=some o)(hex:o.ExactSet)(hd:o.data= .set es ep t)(hf:t.fits es.size=true)(Ko:t.plain=true)(hm:B5 (sizeAbove n - 1))(h5:5*es.size<3*(sizeAbove n - 1))
 (h:∀h',Heap.SameBut a s.heap h'→SetH t.led h' a es.toList→Q () {s with heap:=h'}):wpAny (model prog w) A (setRelay a n) Q E s:=by
 obtain⟨t',order,e1,e2,e3,e4,e5,e6,e7,e8⟩:=C2 (m:=sizeAbove n - 1) (f:=t.finger) (mv:=t.movedTo (sizeAbove n - 1)) (led:=t.led) (pl:=t.plain) hm (hs:=es.map (·.1)) (by rw[Array.size_map];omega)
 rw[Array.size_map] at e4 e5
 have xo:(order.filterMap (es[·]?)).toList.Perm es.toList:=by
  rw[Array.toList_filterMap]
  have:=e5.filterMap (fun i=>es[i]?)
  rwa [filterMap_getElem?_range] at this
 have hsz:(order.filterMap (es[·]?)).size=es.size:=by rw[←Array.length_toList,xo.length_eq,Array.length_toList]
 have MW:sizeAbove n≤128:=by rcases hm with e | e | e<;>omega
 unfold setRelay
 refine wpAny_bind (wpAny_setState_of ho hd hf ?_)
 dsimp only
 rw[if_neg (by rw[sizeLine_eq];omega)]
 have hr:t.relaid (es.map (·.1)) n=some (t',order):=e1
 rw[hr]
 refine wpAny_bind (wpAny_of_eq (a:=(order.filterMap (es[·]?),t')) ?_ ?_)
 ·show (if ((order.filterMap (es[·]?)).size !=es.size)=true then(do (unsupported "internal:set-table-lost-an-element":Sem PUnit);pure (order.filterMap (es[·]?),t')) else pure (order.filterMap (es[·]?),t'))=_
  rw[hsz,bne_self_eq_false]
  rfl
 ·dsimp only
  refine wpAny_storeSet_of ho hd (h _ (Heap.SameBut.update ..) ?_) (by rw[hsz,sizeLine_eq];rcases hm with e | e | e<;>omega)
  have hg:(s.heap.update a (Obj.putSet (order.filterMap (es[·]?)) t')).get? a=some {o with data:= .set (order.filterMap (es[·]?)) (ep+1) t'}:=by
   have:=Heap.get?_update_self (Obj.putSet (order.filterMap (es[·]?)) t') ho (by rw[putSet_of _ t' hd];rfl)
   rw[putSet_of _ t' hd] at this;exact this
  exact⟨_,_,ep+1,t',hg,hex,rfl,xo,by rw[e2];exact hm,by rw[hsz];exact e4,e3,by rw[hsz,e2];exact h5,e6.trans Ko,e7,e8⟩
theorem Co:sizeAbove (grown 5)=32:=by decide
theorem zG:sizeAbove (grown 19)=128:=by decide
theorem kE{a b:Addr}{ks:List Int}{hk:Int}{ld:Bool}{xs:List (Int×Value)}{Q:Bool→Shared→Prop}(yH:IsTupleKey (intKind prog w) s.heap ks b)(hS:SetH ld s.heap a xs)(Fg:hk∉xs.map (·.1))(hl:xs.length<64)
 (h:∀h',Heap.SameBut a s.heap h'→SetH ld h' a (xs++[(hk, .ref b)])→Q true {s with heap:=h'}):wpAny (model prog w) A (setAddHashed a (.ref b) hk) Q E s:=by
 obtain⟨o,es,ep,t,ho,hex,hd,hp,ht⟩:=hS
 have hf:=ht.fits
 have hsz:es.size=xs.length:=by rw[←Array.length_toList,hp.length_eq]
 unfold setAddHashed setAddHashedIn
 refine wpAny_holding (wpAny_bind (wpAny_setState_of ho hd hf ?_))
 dsimp only
 have MX:byScan (.ref b) es=false:=rfl
 rw[MX]
 simp only[Bool.false_eq_true,↓reduceIte]
 refine wpAny_bind (pM ho hd ht (fun e he z=>Fg (List.mem_map.mpr ⟨e,hp.mem_iff.mp he,z⟩)) fun j E9=>?_)
 obtain⟨hm,nO,J3,h5,Ko,Fc,Nz⟩:=ht
 dsimp only
 refine wpAny_bind (wpAny_setState_of ho hd hf ?_)
 dsimp only
 have Fl:(t.put j).1.mask=t.mask∧(t.put j).1.place.size=es.size+1∧(t.put j).1.dummies= #[]∧(t.put j).1.plain=true∧(t.put j).1.led=ld∧(t.put j).1.place.toList.Pairwise (· < ·):=by
  refine⟨rfl,?_,?_,Ko,Fc,BH Nz E9⟩
  ·show (insertAt t.place (below t.place j) j).size=_
   rw[jz,nO]
  ·show (if has t.dummies j then eraseAt t.dummies (below t.dummies j) else t.dummies)= #[]
   rw[J3]
   rfl
 have fin:wpAny (model prog w) A (do
  storeSet a (insertAt es (t.put j).2 (hk, .ref b)) (t.put j).1
  if (!false&&(t.put j).1.tooFull)=true then do
      setRelay a (grown (es.size+1))
      pure true
   else pure true) Q E s:=by
  obtain⟨q1,q2,q3,q4,q5,q6⟩:=Fl
  generalize (t.put j).1=t1 at q1 q2 q3 q4 q5 q6
  have HW:=jz es (t.put j).2 (hk,Value.ref b)
  have Kn:(insertAt es (t.put j).2 (hk,Value.ref b)).toList.Perm (xs++[(hk, .ref b)]):=by
   refine(insertAt_perm es _ _).trans ?_
   rw[Array.toList_push]
   exact hp.append_right _
  generalize insertAt es (t.put j).2 (hk,Value.ref b)=Eg at HW Kn
  have hg:(s.heap.update a (Obj.putSet Eg t1)).get? a=some {o with data:= .set Eg (ep+1) t1}:=by
   have:=Heap.get?_update_self (Obj.putSet Eg t1) ho (by rw[putSet_of _ t1 hd];rfl)
   rw[putSet_of _ t1 hd] at this;exact this
  have Cf:=Heap.SameBut.update s.heap a (Obj.putSet Eg t1)
  have Oz:t.mask≤127:=by rcases hm with e | e | e<;>omega
  refine wpAny_bind (wpAny_storeSet_of ho hd ?_ (by rw[sizeLine_eq];omega))
  have Am:t1.fill=es.size+1:=by unfold fill;rw[q2,q3];rfl
  by_cases g6:t1.tooFull=true
  ·rw[g6]
   simp only[Bool.not_false,Bool.and_self,↓reduceIte]
   unfold tooFull at g6
   rw[Am,q1] at g6
   have g6:t.mask*3≤(es.size+1)*5:=of_decide_eq_true g6
   have M4:t1.fits Eg.size=true:=by
    unfold SetTable.fits
    rw[Am,q2,q1,HW]
    simp
    omega
   have hr:B5 (sizeAbove (grown (es.size+1)) - 1)∧5*Eg.size<3*(sizeAbove (grown (es.size+1)) - 1):=by
    rw[HW]
    rcases hm with e | e | e
    ·have:es.size=4:=by omega
     rw[this,Co]
     exact⟨.inr (.inl rfl),by decide⟩
    ·have:es.size=18:=by omega
     rw[this,zG]
     exact⟨.inr (.inr rfl),by decide⟩
    ·omega
   refine wpAny_bind (uX (o:={o with data:= .set Eg (ep+1) t1}) hg hex rfl M4 q4 hr.1 hr.2 fun h' tV E2=>wpAny_pure (h h' (Cf.trans tV) ?_))
   obtain⟨o2,MC,Mz,t2,k1,k2,k3,k4,k5⟩:=E2
   exact⟨o2,MC,Mz,t2,k1,k2,k3,k4.trans Kn,q5▸k5⟩
  ·have g6:t1.tooFull=false:=by simpa using g6
   rw[g6]
   simp only[Bool.not_false,Bool.and_false,Bool.false_eq_true,↓reduceIte]
   unfold tooFull at g6
   rw[Am,q1] at g6
   have g6:¬t.mask*3≤(es.size+1)*5:=of_decide_eq_false g6
   exact wpAny_pure (h _ Cf ⟨_,Eg,ep+1,t1,hg,hex,rfl,Kn,by rw[q1];exact hm,by rw[q2,HW],q3,by rw[HW,q1];omega,q4,q5,q6⟩)
 split
 ·refine wpAny_bind (jZ yH ?_)
  exact fin
 ·refine wpAny_bind (wpAny_pure ?_)
  exact fin
end
theorem SetH.at{ld:Bool}{h h':Heap}{a:Addr}{xs:List (Int×Value)}(x:SetH ld h a xs)(e:∀o,h.get? a=some o→h'.get? a=some o):SetH ld h' a xs:=
 let ⟨o,es,ep,t,ho,r⟩:=x
 ⟨o,es,ep,t,e o ho,r⟩
theorem lB{prog:Program}{w:World}{h h':Heap}{ks:List Int}{b:Addr}(x:IsTupleKey (intKind prog w) h ks b)(e:∀o,h.get? b=some o→h'.get? b=some o):IsTupleKey (intKind prog w) h' ks b:=
 let ⟨o,items,n,ho,r⟩:=x
 ⟨o,items,n,e o ho,r⟩
section
variable{prog:Program}{w:World}{A:Around}{R:Result→Shared→Prop}{I:Addr}{fp wr:List Addr}{G:Array GenState→Array GenState→Prop}{n:Nat}{P:Nat→Value→Prop}{St:Nat→Shared→Prop}{ld:Bool}
def yS(prog:Program)(w:World)(ks:Nat→List Int)(ad:Nat→Addr)(i:Nat):List (Int×Value):=(List.range i).map fun j=>(tupleKeyHash (intKind prog w) (ks j), .ref (ad j))
theorem BM(W:WalksS prog w A.in1 I fp wr G n P St)(S:Addr)(Ji:S∉fp)(ks:Nat→List Int)(ad:Nat→Addr)(Kv:∀i v,P i v→v= .ref (ad i))(fm:∀i,i<n→ad i≠S∧ad i∉wr)(hu:A.in1.units<cLine)(hn:n≤64)
 (xn:((List.range n).map fun i=>tupleKeyHash (intKind prog w) (ks i)).Nodup):∀(k i:Nat) (s:Shared),n - i=k→i≤n→St i s→(∀j,j<n→IsTupleKey (intKind prog w) s.heap (ks j) (ad j))→SetH ld s.heap S (yS prog w ks ad i)→
  (∀s',Moved (S::wr) G s s'→SetH ld s'.heap S (yS prog w ks ad n)→R (.ok (.ret .none)) s')→codeAny (model prog w) A (.builtin "set.update.loop" ⟨[.ref S, .ref I],[]⟩) R s:=by
 have LF:S∉wr:=fun h=>Ji (W.sub _ h)
 have rC:∀b∈wr,b∈S::wr:=fun b hb=>List.mem_cons_of_mem _ hb
 intro k
 induction k with
 |zero=>
  intro i s hk hi Au hT hS hR
  obtain rfl:i=n:=by omega
  refine codeAny_builtin PyProof.Rows.F.entry_set_update_loop ?_
  rw[Around.under_plainId PyProof.Rows.F.plain_set_update_loop _]
  show wpAny _ A.in1 (pyNext (.ref I)>>=_) _ _ s
  refine wpAny_bind (W.done s _ _ Au fun s' hm=>?_)
  show wpAny _ A.in1 (ret Value.none) _ _ s'
  exact wpAny_pure (hR s' (hm.mono rC) (hS.at fun o e=>hm.heap S o LF e))
 |succ k ih=>
  intro i s hk hi Au hT hS hR
  have dO:i<n:=by omega
  refine codeAny_builtin PyProof.Rows.F.entry_set_update_loop ?_
  rw[Around.under_plainId PyProof.Rows.F.plain_set_update_loop _]
  show wpAny _ A.in1 (pyNext (.ref I)>>=_) _ _ s
  refine wpAny_bind (W.item i s _ _ dO Au fun v s' hP Kr hm=>?_)
  have ev:=Kv i v hP
  subst ev
  have E2:SetH ld s'.heap S (yS prog w ks ad i):=hS.at fun o e=>hm.heap S o LF e
  have JV:∀j,j<n→IsTupleKey (intKind prog w) s'.heap (ks j) (ad j):=fun j hj=>lB (hT j hj) fun o e=>hm.heap _ o (fm j hj).2 e
  show wpAny _ A.in1 (holding [Value.ref (ad i)] (setAdd S (.ref (ad i)))>>=_) _ _ s'
  refine wpAny_bind (wpAny_holding ?_)
  unfold setAdd
  refine wpAny_holding (wpAny_bind (wpAny_pyHash_tuple hu (JV i dO) ?_))
  refine kE (s:={s' with toks:=s'.toks+((ks i).length+1)}) (JV i dO) E2 (fun Ao=>?_) (by unfold yS;rw[List.length_map,List.length_range];omega) fun h' Cf LD=>?_
  ·unfold yS at Ao
   rw[List.map_map] at Ao
   obtain⟨j,hj,e⟩:=List.mem_map.mp Ao
   have hj:=List.mem_range.mp hj
   have h1:((List.range n).map fun i=>tupleKeyHash (intKind prog w) (ks i))[j]? =some (tupleKeyHash (intKind prog w) (ks j)):=by rw[List.getElem?_map,List.getElem?_range (by omega)];rfl
   have h2:((List.range n).map fun i=>tupleKeyHash (intKind prog w) (ks i))[i]? =some (tupleKeyHash (intKind prog w) (ks j)):=by rw[List.getElem?_map,List.getElem?_range dO];exact congrArg some (show _=_ from e).symm
   have:=(List.getElem?_inj (i:=j) (j:=i) (by simp;omega) xn).mp (h1.trans h2.symm)
   omega
  have MR:SetH ld h' S (yS prog w ks ad (i+1)):=by
   unfold yS at LD⊢
   rw[List.range_succ,List.map_append]
   exact LD
  have KS:∀b o,b≠S→s'.heap.get? b=some o→h'.get? b=some o:=fun b o hb e=>(Cf.2 b hb).trans e
  refine wpAny_pure ⟨plainId_quiet PyProof.Rows.F.plain_set_update_loop _,ih (i+1) _ (by omega) dO (W.frame _ s' _ _ Kr (Nat.le_add_right ..) fun b hb o e=>KS b o (fun z=>Ji (z▸hb)) e) (fun j hj=>lB (JV j hj) fun o e=>KS _ o (fm j hj).1 e) MR fun IV Ke JU=>?_⟩
  exact hR IV (Moved.trans W.gtrans ((hm.mono rC).then_heap (Nat.le_add_right ..) fun b o hb e=>KS b o (fun z=>hb (z▸List.mem_cons_self ..)) e) Ke) JU
end
def j7(w:World):Bool:=!w.params.followText "set-order"
section
variable{prog:Program}{w:World}{A:Around}{E:Value→Shared→Prop}{s:Shared}
theorem uY(a:Value){Q₁:Value→Shared→Prop}(h:Q₁ (.ref s.heap.objs.size) {s with heap:=s.heap.push {cls:= .type "set",dict:=none,data:= .set #[] 0 (.fresh 0 0 (j7 w))} }):
 codeAny (model prog w) A (.call (.builtin "set.__new__") ⟨[.type "set",a],[]⟩) (wants Q₁ E) s:=by
 refine codeAny_of_tree (show wpAny _ A.in1 (do checkBuiltinCall "set.__new__" ⟨[.type "set",a],[]⟩;again (.builtin "set.__new__" ⟨[.type "set",a],[]⟩)) _ _ s from ?_)
 refine wpAny_bind (wpAny_of_eq (F.newCall_set_1 a) (wpAny_pure ⟨plainId_quiet F.plain_set_new _,codeAny_builtin F.entry_set_new ?_⟩))
 rw[Around.under_plainId F.plain_set_new _]
 unfold Builtin.«set.__new__» Builtin.Frozenset.newClass
 have rC:=sub_set_self
 obtain⟨hp,g,d,tk,os⟩:=s
 dsimp only
 wp_walk
 refine wpAny_askSetting (wpAny_pure ?_)
 simp only[newObj]
 exact wpAny_bind (wpAny_alloc (wpAny_pure (wpAny_pure h)))
end
section
variable{prog:Program}{w:World}{A:Around}{E:Value→Shared→Prop}{s:Shared}
set_option maxHeartbeats 3200000 in
theorem pk{l:Addr}{items:Array Value}{ks:Nat→List Int}{ad:Nat→Addr}{Q:Value→Shared→Prop}(hh:A.handled=none)(hu:A.units+8<cLine)(hl:s.heap.IsList l items)(hi:∀i,i<items.size→items[i]? =some (.ref (ad i)))
 (hT:∀j,j<items.size→IsTupleKey (intKind prog w) s.heap (ks j) (ad j))(hn:items.size≤64)(xn:((List.range items.size).map fun i=>tupleKeyHash (intKind prog w) (ks i)).Nodup)
 (h:∀(h':Heap) (tk:Nat),SetH (j7 w) h' s.heap.objs.size (yS prog w ks ad items.size)→(∀b o,b<s.heap.objs.size→s.heap.get? b=some o→h'.get? b=some o)→Q (.ref s.heap.objs.size) {s with heap:=h',toks:=tk}):
 wpAny (model prog w) A (call (.type "set") [.ref l]) Q E s:=by
 obtain⟨c,tl,Nq⟩:=F.called_set.mro
 have LS:=F.called_set.made
 have rC:=F.called_set.sub
 refine wpAny_call (codeAny_of_tree ?_)
 show wpAny _ _ (callAny (.type "set") _) _ _ _
 refine wpAny_pure ⟨Code.quiet_builtin _ (by decide+kernel),codeAny_builtin F.entry_type_call ?_⟩
 rw[Around.under_plain (weight_type_call_type "set" [.ref l] []) rfl]
 have h1:=F.called_set.notType
 have h2:=F.called_set.canCreate
 have Oq:=F.typeCall_set_1 (.ref l)
 repeat (any_goals (first | assumption | wp_step))
 refine codeAny_mono (uY (.ref l) (E:=E) (Q₁:=fun obj s₁=>∃led:Bool,led=j7 w∧obj= .ref s.heap.objs.size∧s₁={s with heap:=s.heap.push {cls:= .type "set",dict:=none,data:= .set #[] 0 (.fresh 0 0 led)} }) ⟨_,rfl,rfl,rfl⟩) fun r s₁ hr=>?_
 cases r with
 |error e=>exact hr
 |ok fl=>
  cases fl with
  |ret obj=>
   obtain⟨led,Fc,rfl,rfl⟩:=hr
   have hS:(s.heap.push {cls:= .type "set",dict:=none,data:= .set #[] 0 (.fresh 0 0 led)}).get? s.heap.objs.size=some {cls:= .type "set",dict:=none,data:= .set #[] 0 (.fresh 0 0 led)}:=Heap.get?_push_size _ rfl
   have MS:Shared.TypeIs {s with heap:=s.heap.push {cls:= .type "set",dict:=none,data:= .set #[] 0 (.fresh 0 0 led)} } (.ref s.heap.objs.size) "set":=⟨_,hS,rfl⟩
   have Ow:=F.called_set.init.lookup
   have LG:=F.called_set.init.bind (.ref s.heap.objs.size)
   repeat (any_goals (first | assumption | wp_step))
   refine codeAny_mono (codeAny_call_builtin (R:=wants (fun r s₂=>r= .none∧∃h' tk,s₂={s with heap:=h',toks:=tk}∧SetH (j7 w) h' s.heap.objs.size (yS prog w ks ad items.size)∧(∀b o,b<s.heap.objs.size→s.heap.get? b=some o→h'.get? b=some o)) E) F.called_set.init.plain F.entry_set_init (check_set_init_1 MS ?_)) fun r₂ s₂ Kq=>?_
   ·obtain⟨ol,LW,E6,nl,LK⟩:=hl
    obtain⟨N9,Im,Mf,FV⟩:=ol
    simp only at E6 LK
    subst E6;subst LK
    have Kl:(s.heap.push {cls:= .type "set",dict:=none,data:= .set #[] 0 (.fresh 0 0 led)}).get? l=some {cls:= .type "list",dict:=Im,data:= .seq items nl,slots:=FV}:=Heap.get?_push_of_some _ LW
    have NC:=F.sub_list_set
    have NB:=F.sub_list_frozenset
    have fm:(Value.type "list"==Value.type "dict")=false:=by decide
    have vq:(s.heap.push {cls:= .type "set",dict:=none,data:= .set #[] 0 (.fresh 0 0 led)}).IsList l items:=⟨_,Kl,rfl,nl,rfl⟩
    unfold Builtin.«set.__init__» noKeywords Builtin.Frozenset.updateFrom
    generalize MO:pyIter=PI
    wp_walk
    subst MO
    refine wpAny_pyIter_list vq (wpAny_bind (wpAny_runValue ?_))
    have LP:l<s.heap.objs.size:=Heap.lt_size LW
    have Nb:A.in1.in1.in1.handled=none:=by simp[hh]
    have Kf:l≠(s.heap.push {cls:= .type "set",dict:=none,data:= .set #[] 0 (.fresh 0 0 led)}).objs.size:=by
     rw[Heap.size_push];exact Nat.ne_of_lt (Nat.lt_succ_of_lt LP)
    have Ji:s.heap.objs.size∉[(s.heap.push {cls:= .type "set",dict:=none,data:= .set #[] 0 (.fresh 0 0 led)}).objs.size,l]:=by
     rw[Heap.size_push];simp only[List.mem_cons,List.mem_singleton,List.not_mem_nil,or_false,not_or]
     exact⟨Nat.ne_of_lt (Nat.lt_succ_self _),Nat.ne_of_gt LP⟩
    have JW:∀i,i<items.size→ad i<s.heap.objs.size:=fun i sW=>let ⟨o,_,_,ho,_⟩:=hT i sW;Heap.lt_size ho
    refine BM (ld:=j7 w) ((Walks.list Nb _ l Kf items).toS) s.heap.objs.size Ji ks ad (fun i v hv=>?_) (fun i sW=>?_) ?_ hn xn (items.size - 0) 0 _ (by omega) (Nat.zero_le _) ⟨⟨_,Heap.get?_push_size _ rfl,rfl,rfl⟩,(vq.push _)⟩ (fun j hj=>lB (hT j hj) fun o e=>Heap.get?_push_of_some _ (Heap.get?_push_of_some _ e)) ?hS0 ?hR
    case hS0=>exact⟨_,#[],0,_,Heap.get?_push_of_some _ hS,⟨rfl,rfl,rfl⟩,rfl, .refl _, .inl rfl,rfl,rfl,by show 5*0<3*7;decide,rfl,Fc,List.Pairwise.nil⟩
    case hR=>
     intro s' hm E2
     obtain⟨h',g',d',Oe,KR⟩:=s'
     obtain rfl:g'=s.gens:=hm.gens
     obtain rfl:d'=s.drawn:=hm.drawn
     obtain rfl:KR=s.os:=hm.os
     show wpAny _ _ _ _ _ _
     refine wpAny_pure ?_
     show wpAny _ _ (ret Value.none) _ _ _
     refine wpAny_pure ⟨rfl,h',Oe,rfl,E2,fun b o hb e=>?_⟩
     have MU:b≠s.heap.objs.size:=Nat.ne_of_lt hb
     have Hy:b≠(s.heap.push {cls:= .type "set",dict:=none,data:= .set #[] 0 (.fresh 0 0 led)}).objs.size:=by
      rw[Heap.size_push];exact Nat.ne_of_lt (Nat.lt_succ_of_lt hb)
     exact hm.heap b o (by simp only[List.mem_cons,List.mem_singleton,List.not_mem_nil,or_false,not_or];exact⟨MU,Hy⟩) (Heap.get?_push_of_some _ (Heap.get?_push_of_some _ e))
    ·have dO:i<items.size:=(Array.getElem?_eq_some_iff.mp hv).1
     exact Option.some.inj ((show items[i]? =some v from hv).symm.trans (hi i dO))
    ·have:=JW i sW
     refine⟨Nat.ne_of_lt this,?_⟩
     rw[Heap.size_push]
     simp only[List.mem_cons,List.mem_singleton,List.not_mem_nil,or_false]
     exact Nat.ne_of_lt (Nat.lt_succ_of_lt this)
    ·show A.units+1+1+1<cLine
     omega
   ·cases r₂ with
    |error e=>exact Kq
    |ok MH=>
     cases MH with
     |ret r=>
      obtain⟨rfl,h',tk,rfl,E2,tT⟩:=Kq
      repeat (any_goals (first | assumption | wp_step))
      exact h _ _ E2 tT
     |_=>exact Kq.elim
  |_=>exact hr.elim
end
end L3
namespace L3
open PySem PySem.Spec L2 HT
open PyProof.Rows hiding St
theorem items_int{P:Program}{w:World}:∀{us:List Value}{ns:List Int},IntsAre us ns→ItemsAre (intKind P w) ns us
 |_,_, .nil=> .nil
 |_,_, .cons n t h=> .cons (intKind_is _ _ _ _) (items_int h)
def zJ:V→Addr
 | .ref a=>a
 |_=>0
theorem uM{X:Cx}{pins:List (Addr×Obj)}{σ:St}{H:Hp}{s:Shared}(I:Inv X pins σ H s){vs:List V}{aF:List Value}{ks:List (List Int)}(hr:bW H vs ks)(rv:Vals vs aF){i:Nat}(hi:i<aF.toArray.size):
 aF.toArray[i]? =some (.ref (zJ (vs.getD i .non)))∧IsTupleKey (intKind X.prog X.w) s.heap (ks.getD i []) (zJ (vs.getD i .non)):=by
 have hl:=rv.length
 have sW:i<aF.length:=by simpa using hi
 obtain⟨a,e1,e2⟩:=kB hr (i:=i) (by omega)
 have r:=lC i rv (by omega)
 rw[e1] at r⊢
 have r:aF.getD i Value.none= .ref a:=r
 refine⟨?_,?_⟩
 ·rw[List.getD_eq_getElem?_getD,List.getElem?_eq_getElem sW,Option.getD_some] at r
  rw[List.getElem?_toArray,List.getElem?_eq_getElem sW,r]
  rfl
 ·obtain⟨us,ru,pt,_⟩:=I.tuple (SqT.of (K:=X.K) e2)
  obtain⟨o,q1,q2,m,q3⟩:=pt
  exact⟨o,us.toArray,m,q1,q2,q3,by simpa using items_int (intsAre_of ru)⟩
section
variable{X:Cx}{Xw:Nat→Hp→Prop}{e:Expr}{δ:DE}{pos pJ p p2:Pos}
theorem BN{pins:List (Addr×Obj)}{σ:St}{H:Hp}{s:Shared}{Q:Value→Shared→Prop}{E:Value→Shared→Prop}(I:Inv X pins σ H s)(hc:X.calm=true)(hu:X.A.units+64<cLine){a:Addr}{ws:List V}{ks:List (List Int)}(hl:SqL X.K H a ws)(hr:bW H ws ks)(hn:ks.length≤64)(xn:(ks.map dN).Nodup)
 (h:∀h' tk,SetH (j7 X.w) h' s.heap.objs.size (yS X.prog X.w (fun i=>ks.getD i []) (fun i=>zJ (ws.getD i .non)) ks.length)→(∀b o,s.heap.get? b=some o→h'.get? b=some o)→Q (.ref s.heap.objs.size) {s with heap:=h',toks:=tk}):
 wpAny (model X.prog X.w) X.A (call (.type "set") [.ref a]) Q E s:=by
 obtain⟨aF,rv,pl,hz⟩:=I.list hl
 have h1:=eo hr
 have h2:=rv.length
 have hsz:aF.toArray.size=ks.length:=by rw[List.size_toArray];omega
 refine pk (items:=aF.toArray) (ks:=fun i=>ks.getD i []) (ad:=fun i=>zJ (ws.getD i .non)) (I.ok.hd hc) (by omega) pl.isList (fun i hi=>(uM I hr rv hi).1) (fun i hi=>(uM I hr rv hi).2) (by omega) ?_ fun h' tk hS hk=>?_
 ·rw[hsz]
  have e:((List.range ks.length).map fun i=>tupleKeyHash (intKind X.prog X.w) (ks.getD i []))=ks.map dN:=by
   refine List.ext_getElem (by simp) fun i h1 h2=>?_
   have hi:i<ks.length:=by simpa using h1
   rw[List.getElem_map,List.getElem_map,List.getElem_range,List.getD_eq_getElem?_getD,List.getElem?_eq_getElem hi]
   rfl
  rw[e]
  exact xn
 ·rw[hsz] at hS
  exact h h' tk hS fun b o q=>hk b o (Heap.lt_size q) q
end
end L3
namespace L3
open PySem PySem.SetTable PySem.W PyProof.Rows
theorem cX:Slot "set_iterator" "__next__" "set_iterator.__next__":=
 .of (owner:="set_iterator") (n:="__next__") (by rw[typeLookup_type,builtinLookup_eq_fast];kernel_rfl) (by decide+kernel) (by decide+kernel) (by decide+kernel) (by first | exact .inl (by decide+kernel) | exact .inr (by decide+kernel)) (by rw[isSubtype_type];kernel_rfl)
theorem kG:Slot "set_iterator" "__iter__" "set_iterator.__iter__":=
 .of (owner:="set_iterator") (n:="__iter__") (by rw[typeLookup_type,builtinLookup_eq_fast];kernel_rfl) (by decide+kernel) (by decide+kernel) (by decide+kernel) (by first | exact .inl (by decide+kernel) | exact .inr (by decide+kernel)) (by rw[isSubtype_type];kernel_rfl)
theorem uD:Manifest.owners.lookup (String.ofList ['r', 'o', 't', 'a', 'r', 'e', 't', 'i', '_', 't', 'e', 's'].reverse)=some Manifest.sig_set_iterator:=by kernel_rfl
theorem jS(a:Value):argsOk "set_iterator.__next__" ⟨[a],[]⟩:=by
 unfold argsOk
 rw[signature?_of (id:="set_iterator.__next__") (n:=['_', '_', 't', 'x', 'e', 'n', '_', '_']) (o:=['r', 'o', 't', 'a', 'r', 'e', 't', 'i', '_', 't', 'e', 's']) (by kernel_rfl) uD]
 kernel_rfl
theorem qV(a:Value):argsOk "set_iterator.__iter__" ⟨[a],[]⟩:=by
 unfold argsOk
 rw[signature?_of (id:="set_iterator.__iter__") (n:=['_', '_', 'r', 'e', 't', 'i', '_', '_']) (o:=['r', 'o', 't', 'a', 'r', 'e', 't', 'i', '_', 't', 'e', 's']) (by kernel_rfl) uD]
 kernel_rfl
theorem ji:entryFor table "set_iterator.__next__"=some Builtin.«set_iterator.__next__» :=entryFor_of_tree (by kernel_rfl)
theorem ny:entryFor table "set.__iter__"=some Builtin.«frozenset.__iter__» :=entryFor_alias (id':="frozenset.__iter__") (by kernel_rfl) rfl (by decide+kernel) (by kernel_rfl)
theorem pz:entryFor table "set_iterator.__iter__"=some Builtin.«dict_keyiterator.__iter__» :=entryFor_alias (id':="dict_keyiterator.__iter__") (by kernel_rfl) rfl (by decide+kernel) (by kernel_rfl)
def IsSI(h:Heap)(it a:Addr)(sl k n ep:Nat):Prop:=∃o,h.get? it=some o∧o.cls= .type "set_iterator"∧o.data= .fields #[rawInt sl,rawInt k, .ref a,rawInt n,rawInt ep]
theorem IsSI.typeIs{s:Shared}{it a:Addr}{sl k n ep:Nat}(x:IsSI s.heap it a sl k n ep):s.TypeIs (.ref it) "set_iterator":=let ⟨o,ho,hc,_⟩:=x;⟨o,ho,hc⟩
theorem IsSI.at{h h':Heap}{it a:Addr}{sl k n ep:Nat}(x:IsSI h it a sl k n ep)(e:∀o,h.get? it=some o→h'.get? it=some o):IsSI h' it a sl k n ep:=let ⟨o,ho,r⟩:=x;⟨o,e o ho,r⟩
def ki(w:World)(a:Addr)(ep:Nat)(es:Array (Int×Value)):Array (Int×Value):=if w.params.followText "set-order" then pickOrder (w.params.setOrder a ep) es else es
def gm(w:World)(t:SetTable)(k:Nat):Nat:=if w.params.followText "set-order" then 0 else slotAt t.place k
section
variable{prog:Program}{w:World}{A:Around}{E:Value→Shared→Prop}{s:Shared}{a:Addr}{o:Obj}{es:Array (Int×Value)}{ep:Nat}{t:SetTable}
theorem AB{Q:Value→Shared→Prop}(ho:s.heap.get? a=some o)(hex:o.ExactSet)(hd:o.data= .set es ep t)(ht:TabOk t es.size (j7 w))
 (hQ:Q (.ref s.heap.objs.size) {s with heap:=s.heap.push {cls:= .type "set_iterator",data:= .fields #[rawInt 0,rawInt 0, .ref a,rawInt es.size,rawInt ep]} }):wpAny (model prog w) A (pyIter (.ref a)) Q E s:=by
 have hT:s.TypeIs (.ref a) "set":=⟨o,ho,hex.1⟩
 have hf:=ht.fits
 refine wpAny_pyIter_slot hT F.slot_set_iter (wpAny_call_entry F.slot_set_iter hT ny ?_ (F.args_set_iter_1 _))
 unfold Builtin.«frozenset.__iter__» Builtin.Frozenset.slot0 slotArgs
 simp only[List.isEmpty_nil,Bool.not_true,Bool.false_eq_true,↓reduceIte,bind_assoc,List.length_nil,bne_self_eq_false]
 unfold Builtin.Frozenset.addrOf Builtin.Frozenset.sizeOf
 refine wpAny_bind (wpAny_pure ?_)
 try dsimp only
 refine wpAny_bind (wpAny_pure ?_)
 refine wpAny_bind (wpAny_bind (wpAny_setEntries_of ho hd hf (wpAny_pure ?_)))
 unfold setDrawn setsByText
 refine wpAny_bind (wpAny_bind (wpAny_setState_of ho hd hf (wpAny_bind (wpAny_bind (wpAny_askSetting (wpAny_pure (wpAny_pure ?_)))))))
 refine wpAny_ite_split (fun zA=>?_) fun _=>?_
 ·have Hv:(!w.params.followText "set-order" &&(!t.plain&&decide (es.size>1)))=true:=zA
  rw[ht.plain] at Hv
  simp at Hv
 ·refine wpAny_bind (wpAny_pure (wpAny_bind (wpAny_setEpoch_of ho hd hf ?_)))
  unfold newFields
  exact wpAny_bind (wpAny_newObj_type (wpAny_pure ⟨_,rfl,"set_iterator",_,⟨_,Heap.get?_push_size _ rfl,rfl⟩,cX.lookup,hQ⟩))
theorem BL{it:Addr}{sl k n:Nat}{Q:Value→Shared→Prop}(hit:IsSI s.heap it a sl k n ep)(h:Q (.ref it) s):wpAny (model prog w) A (pyIter (.ref it)) Q E s:=by
 refine wpAny_pyIter_slot hit.typeIs kG (wpAny_call_entry kG hit.typeIs pz ?_ (qV _))
 show wpAny _ _ (ret (.ref it)) _ _ s
 exact wpAny_pure ⟨_,rfl,"set_iterator",_,hit.typeIs,cX.lookup,h⟩
theorem o3{k:Nat}{Q:Option (Value×Nat)→Shared→Prop}(ho:s.heap.get? a=some o)(hd:o.data= .set es ep t)(ht:TabOk t es.size (j7 w))(hk:k≤es.size)
 (h:Q ((ki w a ep es)[k]?.map fun e=>(e.2,gm w t (k+1))) s):wpAny (model prog w) A (setNext a (gm w t k) k ep) Q E s:=by
 have hf:=ht.fits
 unfold setNext setsByText
 refine wpAny_bind (wpAny_setState_of ho hd hf (wpAny_bind (wpAny_bind (wpAny_askSetting (wpAny_pure ?_)))))
 have hl:=ht.led
 unfold ki gm at h
 unfold gm
 unfold j7 at hl
 refine wpAny_ite_split (fun hb=>?_) fun hb=>?_
 ·have hb:w.params.followText "set-order"=true:=hb
  rw[if_pos hb,if_pos hb] at h
  dsimp only
  rw[bne_self_eq_false,if_neg (by decide),if_pos hb]
  unfold setWalk setsByText
  refine wpAny_bind (wpAny_bind (wpAny_setState_of ho hd hf (wpAny_bind (wpAny_bind (wpAny_askSetting (wpAny_pure ?_))))))
  refine wpAny_ite_split (fun _=>?_) fun rB=>absurd hb rB
  exact wpAny_bind (wpAny_askSetting (wpAny_pure (wpAny_pure h)))
 ·have hb:¬w.params.followText "set-order"=true:=hb
  have El:w.params.followText "set-order"=false:=by simpa using hb
  rw[if_neg hb,if_neg hb] at h
  rw[El] at hl
  dsimp only
  refine wpAny_ite_split (fun MY=>?_) fun _=>?_
  ·have HC:(!t.plain&&decide (es.size>1))=true:=MY
   rw[ht.plain] at HC
   simp at HC
  ·refine wpAny_bind (wpAny_of_eq (a:=()) ?_ ?_)
   ·show (if (!t.led&& !es.isEmpty)=true then(unsupported "set:maker-not-led":Sem Unit) else pure ())=_
    rw[hl]
    rfl
   ·rw[if_neg hb,below_at ht.rise (by rw[ht.size];exact hk)]
    refine wpAny_pure ?_
    by_cases dO:k<es.size
    ·have h1:es[k]? =some es[k]:=Array.getElem?_eq_getElem dO
     have h2:t.place[k]? =some (t.place[k]'(by rw[ht.size];exact dO)):=Array.getElem?_eq_getElem (by rw[ht.size];exact dO)
     have h3:slotAt t.place (k+1)=t.place[k]'(by rw[ht.size];exact dO)+1:=by
      show t.place.getD k 0+1=_
      rw[Array.getD_eq_getD_getElem?,h2]
      rfl
     rw[h1,h2]
     rw[h1,h3] at h
     exact h
    ·have h1:es[k]? =none:=Array.getElem?_eq_none (by omega)
     rw[h1]
     rw[h1] at h
     exact h
theorem qD{α:Type}(next:Nat→Nat):∀(fuel k:Nat) (left:List α) (out:Array α),left.length=fuel→(pickOrder.go next fuel k left out).toList.Perm (out.toList++left)
 |0,k,left,out,h=>by
  rw[List.length_eq_zero_iff.mp h,List.append_nil]
  exact .refl _
 |fuel+1,k,left,out,h=>by
  unfold pickOrder.go
  have hi:next k % left.length<left.length:=Nat.mod_lt _ (by omega)
  rw[List.getElem?_eq_getElem hi]
  dsimp only
  refine(qD next fuel (k+1) _ _ (by rw[List.length_eraseIdx_of_lt hi];omega)).trans ?_
  rw[Array.toList_push,List.append_assoc]
  refine List.Perm.append_left _ ?_
  rw[List.eraseIdx_eq_take_drop_succ]
  have hp:=(List.perm_middle (a:=left[next k % left.length]) (l₁:=left.take (next k % left.length)) (l₂:=left.drop (next k % left.length+1))).symm
  rw[←List.drop_eq_getElem_cons hi,List.take_append_drop] at hp
  exact hp
theorem ig(w:World)(a:Addr)(ep:Nat)(es:Array (Int×Value)):(ki w a ep es).toList.Perm es.toList:=by
 unfold ki
 split
 ·exact(qD _ es.size 0 es.toList #[] (Array.length_toList ..)).trans (by simp)
 ·exact .refl _
theorem AQ{it:Addr}{k:Nat}{e:Int×Value}{Q:Option Value→Shared→Prop}(hit:IsSI s.heap it a (gm w t k) k es.size ep)(fm:a≠it)(ho:s.heap.get? a=some o)(hd:o.data= .set es ep t)(ht:TabOk t es.size (j7 w))(hx:(ki w a ep es)[k]? =some e)
 (hQ:∀h',IsSI h' it a (gm w t (k+1)) (k+1) es.size ep→Heap.SameBut it s.heap h'→Q (some e.2) {s with heap:=h'}):wpAny (model prog w) A (pyNext (.ref it)) Q E s:=by
 have hsz:(ki w a ep es).size=es.size:=by rw[←Array.length_toList,(ig w a ep es).length_eq,Array.length_toList]
 have dO:k<es.size:=by rw[←hsz];exact(Array.getElem?_eq_some_iff.mp hx).1
 obtain⟨oi,GX,LI,E8⟩:=id hit
 unfold pyNext
 refine wpAny_bind (wpAny_attempt (wpAny_callSpecial?_slot (name:=Str.ofString "__next__") hit.typeIs cX (wpAny_call_entry cX hit.typeIs ji ?_ (jS _))))
 unfold Builtin.«set_iterator.__next__» slotArgs
 simp only[List.isEmpty_nil,Bool.not_true,Bool.false_eq_true,↓reduceIte,bind_assoc,List.length_nil,bne_self_eq_false]
 refine wpAny_bind (wpAny_pure (wpAny_bind (wpAny_fieldsOf GX E8 ?_)))
 simp only[rawInt]
 refine wpAny_bind (wpAny_setEntries_of ho hd ht.fits ?_)
 rw[if_neg (by simp)]
 simp only[Int.toNat_natCast]
 refine wpAny_bind (o3 ho hd ht (Nat.le_of_lt dO) ?_)
 rw[hx]
 show wpAny _ _ (setField (.ref it) 0 (rawInt ((gm w t (k+1):Nat):Int))>>=_) _ _ s
 refine wpAny_bind (wpAny_setField GX E8 (by simp) ?_)
 have h1:(s.heap.update it (Obj.mapFields (·.setIfInBounds 0 (rawInt ((gm w t (k+1):Nat):Int))))).get? it=some (Obj.mapFields (·.setIfInBounds 0 (rawInt ((gm w t (k+1):Nat):Int))) oi):=Heap.get?_update_self _ GX (Obj.isFreed_of_fields (Obj.data_mapFields E8 _))
 have d1:=Obj.data_mapFields E8 (·.setIfInBounds 0 (rawInt ((gm w t (k+1):Nat):Int)))
 show wpAny _ _ (setField (.ref it) 1 (rawInt ((k:Int)+1))>>=_) _ _ _
 refine wpAny_bind (wpAny_setField h1 d1 (by simp) ?_)
 refine wpAny_pure ⟨_,rfl,wpAny_pure (hQ _ ⟨_,Heap.get?_update_self _ h1 (Obj.isFreed_of_fields (Obj.data_mapFields d1 _)),(Obj.cls_mapFields ..).trans ((Obj.cls_mapFields ..).trans LI),?_⟩ ((Heap.SameBut.update ..).trans (Heap.SameBut.update ..)))⟩
 rw[Obj.data_mapFields d1]
 simp[rawInt]
theorem CH{it:Addr}{Q:Option Value→Shared→Prop}(hh:A.handled=none)(hit:IsSI s.heap it a (gm w t es.size) es.size es.size ep)(ho:s.heap.get? a=some o)(hd:o.data= .set es ep t)(ht:TabOk t es.size (j7 w))
 (hQ:∀h',Heap.ExtBut it s.heap h'→Q none {s with heap:=h'}):wpAny (model prog w) A (pyNext (.ref it)) Q E s:=by
 have hsz:(ki w a ep es).size=es.size:=by rw[←Array.length_toList,(ig w a ep es).length_eq,Array.length_toList]
 obtain⟨oi,GX,LI,E8⟩:=id hit
 unfold pyNext
 refine wpAny_bind (wpAny_attempt (wpAny_callSpecial?_slot (name:=Str.ofString "__next__") hit.typeIs cX (wpAny_call_entry cX hit.typeIs ji ?_ (jS _))))
 unfold Builtin.«set_iterator.__next__» slotArgs
 simp only[List.isEmpty_nil,Bool.not_true,Bool.false_eq_true,↓reduceIte,bind_assoc,List.length_nil,bne_self_eq_false]
 refine wpAny_bind (wpAny_pure (wpAny_bind (wpAny_fieldsOf GX E8 ?_)))
 simp only[rawInt]
 refine wpAny_bind (wpAny_setEntries_of ho hd ht.fits ?_)
 rw[if_neg (by simp)]
 simp only[Int.toNat_natCast]
 refine wpAny_bind (o3 ho hd ht (Nat.le_refl _) ?_)
 rw[Array.getElem?_eq_none (Nat.le_of_eq hsz)]
 show wpAny _ _ (setField (.ref it) 2 .none>>=_) _ _ s
 refine wpAny_bind (wpAny_setField GX E8 (by simp) ?_)
 refine wpAny_bind ?_
 simp only[newExc,newTuple]
 refine wpAny_bind (wpAny_newObj_type ?_ (by size_fits))
 refine wpAny_bind (m:=firstArgMember _ _) (wpAny_of_eq (a:=Value.none) (by first | rfl | (simp only[firstArgMember];rfl)) ?_)
 refine wpAny_newObj_type ?_ (by size_fits)
 simp only[raiseNew]
 refine wpAny_bind (wpAny_handled ?_)
 rw[show A.in1.handled=none from hh]
 refine wpAny_bind (wpAny_pure (wpAny_throw ?_))
 refine wpAny_bind (wpAny_isInstance (T:="StopIteration") (b:=true) ⟨_,Heap.get?_push_size _ rfl,rfl⟩ isSubtype_stop ?_)
 exact wpAny_pure (hQ _ (((Heap.SameBut.update ..).extBut.push _).push _))
def G8(w:World)(a:Addr)(ep:Nat)(es:Array (Int×Value)):Nat→Value→Prop:=fun i v=>∃e,(ki w a ep es)[i]? =some e∧v=e.2
theorem zx(hh:A.handled=none)(I a:Addr)(fm:a≠I)(hd:o.data= .set es ep t)(ht:TabOk t es.size (j7 w)):
 Walks prog w A I [I,a] [I] es.size (G8 w a ep es) (fun i h=>IsSI h I a (gm w t i) i es.size ep∧h.get? a=some o) where
 sub:=fun b hb=>by simp at hb;simp[hb]
 frame:=fun _ _ _ st hk=>⟨st.1.at fun o e=>hk I (by simp) o e,hk a (by simp) _ st.2⟩
 item:=fun i s Q E hi st hQ=>by
  have hsz:(ki w a ep es).size=es.size:=by rw[←Array.length_toList,(ig w a ep es).length_eq,Array.length_toList]
  have hx:(ki w a ep es)[i]? =some ((ki w a ep es)[i]'(by omega)):=Array.getElem?_eq_getElem (by omega)
  exact AQ st.1 fm st.2 hd ht hx fun h' yG tV=>hQ _ h' s.toks ⟨_,hx,rfl⟩ ⟨yG,(tV.2 a fm).trans st.2⟩ fun b o hb e=>tV.extBut b o (fun h=>hb (by simp[h])) e
 done:=fun s Q E st hQ=>CH hh st.1 st.2 hd ht fun h' J4=>hQ h' s.toks fun b o hb e=>J4 b o (fun h=>hb (by simp[h])) e
 self:=fun _ _ _ _ st hQ=>BL st.1 hQ
theorem Ap{Q:Bool→Shared→Prop}(hT:s.TypeIs (.ref a) "set")(h:Q false s):wpAny (model prog w) A (Builtin.List.listLengthHint (.ref a)) Q E s:=by
 unfold Builtin.List.listLengthHint
 refine wpAny_bind (wpAny_specialOf hT F.slot_set_len.lookup ?_)
 generalize J7:("set.__len__":String)=NZ
 wp_delta
 rw[show splitId NZ=some ("set","__len__") from by subst J7;decide+kernel]
 subst J7
 refine wpAny_bind (wpAny_isInstance (T:="set") (b:=true) hT (by rw[isSubtype_type];kernel_rfl) ?_)
 refine wpAny_ite_split (fun zA=>absurd zA (by decide)) fun _=>wpAny_ite_split (fun _=>wpAny_bind (wpAny_typeOf hT (wpAny_pure h))) fun zA=>absurd (by decide+kernel) zA
theorem DV{a:Addr}(hex:o.ExactSet)(hd:o.data= .set es ep t)(ht:TabOk t es.size (j7 w)):KdlSrc prog w "set" a a es.size (G8 w a ep es) (fun h=>h.get? a=some o) where
 type:=fun _ hm=>⟨o,hm,hex.1⟩
 there:=fun _ hm=>⟨Heap.lt_size hm,Heap.lt_size hm⟩
 keep:=fun _ _ hm hk=>hk a (.inl rfl) o hm
 notList:=by decide
 notTuple:=by decide
 hint:=fun _ _ s _ hm hq=>Ap ⟨o,hm,hex.1⟩ hq
 iter:=fun _ _ hh hm=>⟨_,_,(fun _ _ hq=>AB hm hex hd ht hq),zx hh _ a (Nat.ne_of_lt (Heap.lt_size hm)) hd ht,⟨⟨_,Heap.get?_push_size _ rfl,rfl,by unfold gm;split<;>rfl⟩,Heap.get?_push_of_some _ hm⟩⟩
end
end L3
namespace L3
open PySem PySem.Spec L2 SeqAt HT
open PyProof.Rows hiding St
def kH:D→M D
 | .lst ds=>match eZ ds with
   |some ks=>if cR ks=true∧(ks.map dN).Nodup then M.ret (.lst ((sortI ks).map tupI)) else M.stuck
   |none=>M.stuck
 |_=>M.stuck
section
variable{X:Cx}{Xw:Nat→Hp→Prop}{e:Expr}{δ:DE}{pos pJ p p2:Pos}
theorem wD{pins:List (Addr×Obj)}{σ:St}{H:Hp}{s:Shared}{Q:VK}(I:Inv X pins σ H s)(hc:X.calm=true){S:Addr}{ws:List V}{ks:List (List Int)}(hr:bW H ws ks)(hk:cR ks=true)
 (hS:SetH (j7 X.w) s.heap S (yS X.prog X.w (fun i=>ks.getD i []) (fun i=>zJ (ws.getD i .non)) ks.length))
 (q:∀(q:Addr) (us:List V),H q=none→bW H us (sortI ks)→Q (.ref q) (upd H q (.lst us))):wpAny (model X.prog X.w) X.A (call (.builtin "sorted") [.ref S]) (EP X pins σ Q) X.xe s:=by
 obtain⟨o,es,ep,t,ho,hex,J2,hp,ht⟩:=hS
 unfold cR at hk
 rw[Bool.and_eq_true,Bool.and_eq_true] at hk
 have hd:ks.Nodup:=of_decide_eq_true hk.1.1
 have rm:ks.length<64:=of_decide_eq_true hk.1.2
 have fm:∀k∈ks,k≠[]:=fun k tT z=>by have:=List.all_eq_true.mp hk.2 k tT;rw[z] at this;cases this
 have E_:es.size=ks.length:=by rw[←Array.length_toList,hp.length_eq];unfold yS;rw[List.length_map,List.length_range]
 have sX:sizeLine=16777216:=sizeLine_eq
 have vq:=eo hr
 refine Calls.call_function_entry kind_sorted plain_sorted entry_sorted (args_sorted1 _) ?_
 unfold Builtin.«sorted»
 refine wpAny_bind (m:=checkCount "sorted" 1 1 _) (wpAny_pure (wpAny_bind (PySem.W.kdu_collect (A:=X.A.in1) (DV hex J2 ht) (I.ok.hd hc) ho (by rw[E_,sX];omega) fun h1 tk acc tY kS=>?_)))
 have I1:Inv X pins σ H {s with heap:=h1,toks:=tk}:=I.kept (t':=tk) fun b ob e=>tY b ob e
 obtain⟨js,Kc,My⟩:∃js:List Nat,js.Perm (List.range ks.length)∧acc.toList=js.map fun j=>Value.ref (zJ (ws.getD j .non)):=by
  have e1:acc.toList=(ki X.w S ep es).toList.map (·.2):=by
   have hsz:(ki X.w S ep es).size=es.size:=by rw[←Array.length_toList,(ig X.w S ep es).length_eq,Array.length_toList]
   refine List.ext_getElem? fun i=>?_
   rw[List.getElem?_map]
   by_cases hi:i<es.size
   ·have ha:acc[i]? =some (acc[i]'(by rw[kS.1];exact hi)):=Array.getElem?_eq_getElem (by rw[kS.1];exact hi)
    obtain⟨e,q1,q2⟩:=kS.2 i _ ha
    rw[Array.getElem?_toList,Array.getElem?_toList,q1,ha,q2]
    rfl
   ·rw[List.getElem?_eq_none (by rw[Array.length_toList,kS.1];omega),List.getElem?_eq_none (by rw[Array.length_toList];omega)]
    rfl
  have e2:((ki X.w S ep es).toList.map (·.2)).Perm ((List.range ks.length).map fun j=>Value.ref (zJ (ws.getD j .non))):=by
   have:=(((ig X.w S ep es).trans hp).map (·.2))
   unfold yS at this
   rw[List.map_map] at this
   exact this
  rw[←e1] at e2
  have lift:∀(l:List Value) (r:List Nat),l.Perm (r.map fun j=>Value.ref (zJ (ws.getD j .non)))→∃js:List Nat,js.Perm r∧l=js.map fun j=>Value.ref (zJ (ws.getD j .non)):=by
   intro l
   induction l with
   |nil=>
    intro r h
    have:=List.Perm.eq_nil h.symm
    exact⟨[],by rw[List.map_eq_nil_iff.mp this],rfl⟩
   |cons v l ih=>
    intro r h
    obtain⟨j,hj,ej⟩:=List.mem_map.mp (h.mem_iff.mp (List.mem_cons_self ..))
    obtain⟨r1,r2,rfl⟩:=List.append_of_mem hj
    have h':l.Perm ((r1++r2).map fun j=>Value.ref (zJ (ws.getD j .non))):=by
     have h1:=h
     rw[List.map_append,List.map_cons,←ej] at h1
     rw[List.map_append]
     exact List.Perm.cons_inv (h1.trans (by rw[ej];exact List.perm_middle))
    obtain⟨js,k1,k2⟩:=ih _ h'
    exact⟨j::js,(k1.cons j).trans List.perm_middle.symm,by rw[List.map_cons,←k2,ej]⟩
  exact lift _ _ e2
 have Ot:js.length=ks.length:=by rw[Kc.length_eq,List.length_range]
 have Ao:∀j∈js,j<ks.length:=fun j hj=>List.mem_range.mp (Kc.mem_iff.mp hj)
 have HS:bW H (js.map fun i=>ws.getD i .non) (js.map fun i=>ks.getD i []):=gj hr fun i hi=>by rw[vq];exact Ao i hi
 have rv:Vals (js.map fun i=>ws.getD i .non) acc.toList:=by
  rw[My]
  refine jQ (by simp) fun i v u e1 e2=>?_
  rw[List.getElem?_map] at e1 e2
  cases hj:js[i]? with
  |none=>rw[hj] at e1;cases e1
  |some j=>
   rw[hj] at e1 e2
   cases e1
   cases e2
   obtain⟨a,e3,_⟩:=kB hr (i:=j) (by rw[vq];exact Ao j (List.mem_of_getElem? hj))
   show RelV (ws.getD j .non) (.ref (zJ (ws.getD j .non)))
   rw[e3]
   rfl
 have Aq:(js.map fun i=>ks.getD i []).Perm ks:=by
  have h1:=Kc.map fun i=>ks.getD i []
  have h2:(List.range ks.length).map (fun i=>ks.getD i [])=ks:=by
   refine List.ext_getElem (by simp) fun i h1 h2=>?_
   rw[List.getElem_map,List.getElem_range,List.getD_eq_getElem?_getD,List.getElem?_eq_getElem h2]
   rfl
  rwa [h2] at h1
 generalize OB:(js.map fun i=>ws.getD i .non)=vs' at HS rv
 generalize vR:(js.map fun i=>ks.getD i [])=ks' at HS Aq
 have qc:ks'.Nodup:=Aq.nodup_iff.mpr hd
 have HX:sortI ks'=sortI ks:=kC (fi qc) (fi hd) fun x=>by rw[cY,cY];exact Aq.mem_iff
 have Cd:=eo HS
 have Ou:=rv.length
 have Ov:=Aq.length_eq
 have NH:=i_ I1 HS rv fun k tT=>fm k (Aq.mem_iff.mp tT)
 refine wpAny_bind (wpAny_newList ?_ (by rw[sX];omega))
 have Ce:(h1.push (seqObj "list" acc.toList.toArray 0)).get? h1.objs.size=some (seqObj "list" acc.toList.toArray 0):=Heap.get?_push_size _ rfl
 refine wpAny_bind (wpAny_holding (wpAny_call_entry slot_list_sort ⟨_,Ce,rfl⟩ entry_list_sort (lz (s:={s with heap:=h1.push (seqObj "list" acc.toList.toArray 0),toks:=tk}) Ce
  (NH.keep (a:=h1.objs.size) (fun b o _ e=>Heap.get?_push_of_some _ e) (fun o e=>absurd (Heap.lt_size e) (Nat.lt_irrefl _))) qc (by omega) fun P h' c' hP hR rz tU=>?_) (args_list_sort _)))
 have Ca:∀i∈P.toList,i<vs'.length:=fun i hi=>by
  obtain⟨j,hj,rfl⟩:=List.mem_iff_getElem.mp hi
  have h':j<P.size:=by rw[Array.length_toList] at hj;exact hj
  have:=hP.lt j (by rw[hP.sz] at h';exact h')
  rw[dw,Array.getElem?_eq_getElem h'] at this
  have e:P.toList[j]=P[j]:=by simp
  rw[e]
  have:P[j]<acc.toList.length:=this
  omega
 have Hw:acc.toList.length=ks'.length:=by omega
 have Ht:PN ks'.length P:=by rw[←Hw];exact hP
 have Hu:Ri (fun i j=>dz (ks'.getD i []) (ks'.getD j [])) P ks'.length:=by rw[←Hw];exact hR
 have Cg:=lA qc Ht Hu
 have HY:=gj HS Ca
 rw[Cg,HX] at HY
 refine⟨_,rfl,wpAny_pure ⟨_,rfl,⟨.ref h1.objs.size,_,I1.laid (a:=h1.objs.size) (t':=tk) (o:= .lst (P.toList.map fun i=>vs'.getD i .non)) (fun b ob e=>tU b ob (Nat.ne_of_lt (Heap.lt_size e)) (Heap.get?_push_of_some _ e)) (Nat.le_refl _) ?_,rfl,q _ _ (I1.hok.fresh (Nat.le_refl _)) HY⟩⟩⟩
 exact⟨by rw[List.length_map,Array.length_toList,hP.sz,sX];omega,_,c',jd rv Ca,rz⟩
theorem zf(hc:X.calm=true)(hu:X.A.units+64<cLine)(hg:Gl X "sorted")(hm:X.mg "sorted"=none)(M7:Gl X "set")(Fe:X.mg "set"=none)(hb:bootBuiltins "sorted"=some (.builtin "sorted"))(Hy:bootBuiltins "set"=some (.type "set"))(ha:PD X Xw e δ)
 (LN:starEach [e] X.env=[(false,eval e X.env)]:=by rfl)(he:starEach [.Call (.Name "set" p2) [e] [] pJ] X.env=[(false,eval (.Call (.Name "set" p2) [e] [] pJ) X.env)]:=by rfl):
 PD X Xw (.Call (.Name "sorted" p) [.Call (.Name "set" p2) [e] [] pJ] [] pos) (d1 kH δ):=fun pins s σ H Q I ⟨F,ρ,S,w⟩=>by
 have w:WP X.K Xw F H (δ ρ>>=kH) Q:=w
 refine wpAny_Call_Name_kw (jG I hg hm hb ?_ (by decide) (by decide))
 refine PyProof.Rows.callWith_builtin1 ?_ he rfl
 rw[he]
 refine Calls.spliced_cons (wpAny_Call_Name_kw (jG I M7 Fe Hy ?_ (by decide) (by decide)))
 refine PyProof.Rows.callWith_type1 ?_ LN rfl
 rw[LN]
 refine Calls.spliced_cons (cg (ha pins s σ H _ I ⟨F,ρ,S,WP.bind w⟩) fun u s1 ⟨v,H1,I1,r,F1,d,e1,q1,w1⟩=>Calls.spliced_nil ?_)
 unfold kH at w1
 split at w1
 ·rename_i ds
  split at w1
  ·rename_i ks CM
   split at w1
   ·rename_i hok
    obtain⟨a,ws,rfl,h2,h3,h4⟩:=q1
    cases (show u=_ from r)
    have hr:=(kT e1.fh CM h3).1
    have hl:=kU CM h3
    have rm:ks.length<64:=by
     have:=hok.1
     unfold cR at this
     rw[Bool.and_eq_true,Bool.and_eq_true] at this
     exact of_decide_eq_true this.1.2
    refine BN I1 hc hu (SqL.of (e1.fh _ _ h2)) hr (by omega) hok.2 fun h' tk hS hk=>Calls.spliced_nil ?_
    refine wD (s:={s1 with heap:=h',toks:=tk}) (I1.kept hk) hc hr hok.1 hS fun q us hq NN=>?_
    obtain⟨F2,e2,r2⟩:=kA e1.fh NN
    have e3:=Ext.lay (o:= .lst us) e2.fh hq
    exact WP.fin w1 (e2.trans e3) ⟨q,_,rfl,aD,DenL.mono e3.ff (iw r2 fun k hk=>hl k (cY.mp hk)),by rw[List.length_map,ja];unfold lim;omega⟩
   ·exact w1.elim
  ·exact w1.elim
 ·exact w1.elim
end
end L3
namespace L3
open PySem PySem.Spec L2 HT
open PyProof.Rows hiding St
section
variable{X:Cx}{Xw:Nat→Hp→Prop}{e:Expr}{δs:DA}{pos p:Pos}
end
section
variable{X:Cx}{Xw:Nat→Hp→Prop}{e:Expr}{δ:DE}{pos pJ p p2:Pos}
end
section
variable{prog:Program}{w:World}{A:Around}{R:Result→Shared→Prop}{I:Addr}{fp wr:List Addr}{G:Array GenState→Array GenState→Prop}{n:Nat}{P:Nat→Value→Prop}{St:Nat→Shared→Prop}
end
section
variable{prog:Program}{w:World}{A:Around}{E:Value→Shared→Prop}{s:Shared}
end
section
variable{X:Cx}{Xw:Nat→Hp→Prop}{e:Expr}{δ:DE}{pos pJ p p2:Pos}
end
section
variable{X:Cx}{Xw:Nat→Hp→Prop}{a b:Expr}{δa δb:DE}{pos:Pos}
end
section
variable{prog:Program}{w:World}{A:Around}{E:Value→Shared→Prop}{s:Shared}
end
section
variable{X:Cx}{Xw:Nat→Hp→Prop}{a b:Expr}{δa δb:DE}{pos:Pos}
end
end L3
namespace L3
open PySem PySem.Spec L2 SeqAt HT
open PyProof.Rows hiding St
def IP:List V→Hp→VK→Prop:=fun xs H Q=>∃p au ks,xs=[.ref p]∧Rd H p (.dT au)∧au.map (·.1)=ks.map mw∧ks.length≤lim∧∀(q:Addr) (ws:List V),H q=none→bW H ws ks→Q (.ref q) (upd H q (.lst ws))
section
variable{X:Cx}{Xw:Nat→Hp→Prop}{e:Expr}{δs:DA}{pos p:Pos}
theorem vG(hc:X.calm=true):CallR X (.type "list") IP:=by
 intro pins s σ H xs us Q I r h
 obtain⟨a,au,ks,rfl,hH,vR,hk,q⟩:=h
 obtain⟨u,rfl,r1⟩:=r.one
 cases (show u=_ from r1)
 obtain⟨z,lo,xs,rel,o,es,ep,g1,g2,g3,g4,g5⟩:=(show ObjOk X.prog X.w H s.heap a (.dT au) from hH.ok I.hok)
 have hr:=kX rel vR
 have vq:=eo hr
 rw[List.length_map] at vq
 have E_:es.size=xs.length:=by rw[←Array.length_toList,g4,List.length_map]
 have sX:sizeLine=16777216:=sizeLine_eq
 have Ox:lim=4096:=rfl
 refine PySem.W.kdl_call (u0 lo g2 g3) (I.ok.hd hc) g1 (by rw[E_,sX];omega) fun h1 tk acc c tY rz kS=>?_
 have Ek:acc.toList.length=xs.length:=by rw[Array.length_toList,←E_];exact kS.1
 have rv:Vals (xs.map fun x=>V.ref x.2.1) acc.toList:=by
  refine jQ (by rw[List.length_map,Ek]) fun i v u e1 e2=>?_
  rw[Array.getElem?_toList] at e2
  obtain⟨en,q1,q2⟩:=kS.2 i u e2
  rw[←Array.getElem?_toList,g4,List.getElem?_map] at q1
  rw[List.getElem?_map] at e1
  cases w:xs[i]? with
  |none=>rw[w] at e1;cases e1
  |some x=>
   rw[w] at e1 q1
   cases e1
   cases q1
   exact q2
 refine⟨.ref s.heap.objs.size,_,I.laid (t':=tk) tY (Nat.le_refl _) (show ObjOk X.prog X.w _ h1 _ (.lst (xs.map fun x=>V.ref x.2.1)) from⟨by rw[List.length_map];omega,acc.toList,c,rv,by simpa using rz⟩),rfl,q _ _ (I.hok.fresh (Nat.le_refl _)) hr⟩
def t9:List D→M D
 |[.dct kk ds]=>match dS kk with
  |some ks=>if ks.length≤lim∧ks.all (fun k=>decide (k.length≤lim)) then M.ret (.lst (ks.map tupI)) else M.stuck
  |none=>M.stuck
 |_=>M.stuck
theorem Be(hc:X.calm=true)(hg:Gl X "list")(hm:X.mg "list"=none)(hb:bootBuiltins "list"=some (.type "list"))(ha:mQ X Xw [e] δs)(he:starEach [e] X.env=[(false,eval e X.env)]:=by rfl):PD X Xw (.Call (.Name "list" p) [e] [] pos) (dA t9 δs):=
 qz (vG hc) (fun Xw F H vs ds Q s h w=>by
  unfold t9 at w
  split at w
  ·rename_i kk ds
   obtain⟨v,rfl,h1⟩:=h.one
   obtain⟨a,ob,ws,rfl,h2,h3,h4,h5⟩:=h1
   split at w
   ·rename_i ks CM
    split at w
    ·rename_i hok
     have hl:∀k∈ks,k.length≤lim:=fun k hk=>of_decide_eq_true (List.all_eq_true.mp hok.2 k hk)
     refine⟨a,_,ks,rfl, .inr ⟨ob,s _ _ h2⟩,by rw[gZ (by rw[h4];exact h3.len),iX CM],hok.1,fun q us hq hr=>?_⟩
     obtain⟨F1,e1,r1⟩:=kA s hr
     have e2:=Ext.lay (o:= .lst us) e1.fh hq
     exact WP.fin w (e1.trans e2) ⟨q,_,rfl,aD,DenL.mono e2.ff (iw r1 hl),by rw[List.length_map];exact hok.1⟩
    ·exact w.elim
   ·exact w.elim
  ·exact w.elim) hg hm hb ha (by decide) (by decide) he rfl
end
end L3
namespace L3
open PySem PySem.Spec L2 HT
open PyProof.Rows hiding St
section
variable{X:Cx}{Xw:Nat→Hp→Prop}{e:Expr}{δs:DA}{pos p:Pos}
end
end L3
namespace L3
def Jy(n:Nat)(δs:DA):DS:=fun _=>M.stuck
end L3
namespace K1
open PySem PySem.Spec L2 L3
open PyProof.Rows hiding St
def wO:DS:=(a9 (eV (dA g7 (aC (dV 0) (aC (dC (.raw (.ty "int"))) aN))) (Eb (dA g7 (aC (dV 0) (aC (dC (.raw (.ty "bool"))) aN))))))
def bp:List D→M D:=bU 1 (wO)
def vg:DS:=(a9 (eV (dA g7 (aC (dV 0) (aC (dC (.raw (.ty "str"))) aN))) (eV (d2 nH (dA ba (aC (dV 0) aN)) (dC (.int 1))) (d2 (Ah false) (dV 0) (dC (.str "abcdef"))))))
def bR:List D→M D:=bU 1 (vg)
def pb:DS:=(a9 (bt 0 (fun ρ=>(aC (dA ba (aC (d2 bw (dV 0) (dC (.int 0))) aN)) aN) ρ>>=jx) du (dA fv (aC (dV 2) (aC (dV 0) aN)))))
def a6:List D→M D:=bU 2 (pb)
def vk:DS:=(a9 (d2 nI (d2 bw (dV 0) (d2 bw (dV 1) (dC (.int 0)))) (d2 bw (dV 1) (dC (.int 1)))))
def aW:List D→M D:=bU 2 (vk)
def wM:DS:=(av (bB 3 (dA zH (aC (d2 mq (d2 bw (dV 0) (dC (.int 0))) (d2 bw (dV 1) (dC (.int 0)))) aN))) (av (bB 4 (dA zH (aC (d2 mq (d2 bw (dV 0) (dC (.int 1))) (d2 bw (dV 1) (dC (.int 1)))) aN))) (av (fN (cf (d2 nH (dV 2) (dC (.int 4)))) (a9 (d2 nH (d2 c0 (dV 3) (dV 4)) (dC (.int 1)))) cC) (a9 (d2 nH (dA vY (aC (dV 3) (aC (dV 4) aN))) (dC (.int 1)))))))
def de:List D→M D:=bU 5 (wM)
def D6:DS:=(av (uP 1) (av (fun ρ=>noex ((er (putN 2) (Av (cO (dV 0)) (fun ρ=>(dV 0) ρ>>=jl)) (cB [2] (fG 1 (dV 2) (dC (.bl true))))) ρ)) (vr 1 (a9 (dV 1)))))
def cU:List D→M D:=bU 3 (D6)
def pe:DS:=(av (fN (cf (d2 nH (dV 0) (dA e_ aN))) (a9 (d2 f6 (dC (.int 7)) (dV 1))) cC) (a9 (d2 c0 (d2 Ai (dV 0) (d2 jY (dV 1) (dA ba (aC (dV 0) aN)))) (d2 f6 (dC (.int 6553)) (d2 pA (dV 1) (dA ba (aC (dV 0) aN)))))))
def eX:List D→M D:=bU 2 (pe)
def vh:DS:=(av (fN (ni (cP (bN (dA g7 (aC (dV 0) (aC (dC (.raw (.ty "str"))) aN))))) (cP (cf (vH (fun i j=>decide (i≤j)) (fun i j=>decide (i≤j)) (dC (.int 1)) (dA ba (aC (dV 0) aN)) (dC (.int 8)))))) (a9 (dC (.bl false))) cC) (a9 (dA allM (aC (bt 0 (fun ρ=>(dV 0) ρ>>=GG) du (ak 1 bR (aC (dV 0) aN))) aN))))
def eW:List D→M D:=bU 1 (vh)
def qR:DS:=(av (fN (ni (cP (bN (dA g7 (aC (dV 1) (aC (dC (.raw (.ty "tuple"))) aN))))) (cf (d2 kR (dA ba (aC (dV 1) aN)) (dC (.int 2))))) (a9 (dC (.bl false))) cC) (av (fN (ni (cP (bN (ak 1 bp (aC (d2 bw (dV 1) (dC (.int 0))) aN)))) (cP (bN (ak 1 bp (aC (d2 bw (dV 1) (dC (.int 1))) aN))))) (a9 (dC (.bl false))) cC) (a9 (eV (vH (fun i j=>decide (i≤j)) (fun i j=>decide (i<j)) (dC (.int 0)) (d2 bw (dV 1) (dC (.int 0))) (dA ba (aC (dV 0) aN))) (vH (fun i j=>decide (i≤j)) (fun i j=>decide (i<j)) (dC (.int 0)) (d2 bw (dV 1) (dC (.int 1))) (dA ba (aC (d2 bw (dV 0) (dC (.int 0))) aN)))))))
def iT:List D→M D:=bU 2 (qR)
def vn:DS:=(fN (ni (cP (bN (ak 1 bp (aC (dV 0) aN)))) (cf (d2 (CL true) (dV 0) (dA fv (aC (dC (.int 4)) (aC (dC (.int 8)) aN)))))) (Jy 1 (aC (dC (.str "ways are 4 or 8")) aN)) cC)
def bc:List D→M D:=bU 1 (vn)
def ve:DS:=(av (oT 1) (av (fun ρ=>noex ((er (putN 2) (fun ρ=>(aC (dA ba (aC (dV 0) aN)) aN) ρ>>=jx) (cB [2] (wy 1 (ak 2 a6 (aC (dV 0) (aC (dV 2) aN)))))) ρ)) (vr 1 (a9 (dV 1)))))
def dh:List D→M D:=bU 3 (ve)
def sU:DS:=(av (oT 3) (av (fun ρ=>noex ((er (putN 4) (fun ρ=>(aC (dA vY (aC (d2 mq (d2 bw (dV 1) (dC (.int 0))) (dC (.int 1))) (aC (dC (.int 0)) aN))) (aC (dA yY (aC (d2 c0 (d2 bw (dV 1) (dC (.int 0))) (dC (.int 2))) (aC (dA ba (aC (dV 0) aN)) aN))) aN)) ρ>>=qK) (cB [4,5] (er (putN 5) (fun ρ=>(aC (dA vY (aC (d2 mq (d2 bw (dV 1) (dC (.int 1))) (dC (.int 1))) (aC (dC (.int 0)) aN))) (aC (dA yY (aC (d2 c0 (d2 bw (dV 1) (dC (.int 1))) (dC (.int 2))) (aC (dA ba (aC (d2 bw (dV 0) (dC (.int 0))) aN)) aN))) aN)) ρ>>=qK) (cB [5] (fN (bN (ak 3 de (aC (dV 1) (aC (dA fv (aC (dV 4) (aC (dV 5) aN))) (aC (dV 2) aN))))) (jf 3 (dA fv (aC (dV 4) (aC (dV 5) aN)))) cC))))) ρ)) (vr 3 (a9 (dV 3)))))
def a7:List D→M D:=bU 6 (sU)
def md:DS:=(av (bB 3 (d2 jY (d2 c0 (d2 f6 (d2 jY (ak 2 eX (aC (dV 0) (aC (dV 1) aN))) (dC (.int 2147483563))) (dC (.int 69069))) (d2 f6 (dC (.int 104723)) (d2 c0 (dV 1) (dC (.int 1))))) (dC (.int 2147483563)))) (av (bB 3 (d2 jY (d2 c0 (d2 f6 (dV 3) (dV 3)) (d2 pA (dV 3) (dC (.int 3)))) (dC (.int 2147483399)))) (a9 (d2 jY (d2 pA (d2 jY (d2 c0 (d2 f6 (dV 3) (dV 3)) (d2 pA (dV 3) (dC (.int 7)))) (dC (.int 2147483647))) (dC (.int 11))) (dV 2)))))
def aI:List D→M D:=bU 4 (md)
def pd:DS:=(av (fN (ni (cP (bN (dA g7 (aC (dV 0) (aC (dC (.raw (.ty "tuple"))) aN))))) (cP (cf (vH (fun i j=>decide (i≤j)) (fun i j=>decide (i≤j)) (dC (.int 1)) (dA ba (aC (dV 0) aN)) (dC (.int 8)))))) (a9 (dC (.bl false))) cC) (av (fN (cP (bN (dA allM (aC (bt 0 (vJ (dV 0)) du (ak 1 eW (aC (dV 0) aN))) aN)))) (a9 (dC (.bl false))) cC) (a9 (dA allM (aC (bt 0 (vJ (dV 0)) du (d2 nH (dA ba (aC (dV 0) aN)) (dA ba (aC (d2 bw (dV 1) (dC (.int 0))) aN)))) aN)))))
def gE:List D→M D:=bU 1 (pd)
def vm:DS:=(fN (cP (bN (ak 2 iT (aC (dV 0) (aC (dV 1) aN))))) (Jy 2 (aC (dC (.str "a tuple (row, column) on the board is asked for")) aN)) cC)
def bb:List D→M D:=bU 2 (vm)
def sQ:DS:=(av (bB 3 (ak 2 aW (aC (dV 0) (aC (dV 1) aN)))) (a9 (bt 0 (cO (ak 3 a7 (aC (dV 0) (aC (dV 1) (aC (dV 2) aN))))) (cf (d2 nH (ak 2 aW (aC (dV 1) (aC (dV 0) aN))) (dV 4))) (dV 0))))
def cq:List D→M D:=bU 4 (sQ)
def vi:DS:=(av (bB 3 (d2 c0 (dC (.int 1)) (ak 3 aI (aC (dV 0) (aC (dV 1) (aC (dV 2) aN)))))) (av (bB 4 (d2 c0 (dC (.int 1)) (ak 3 aI (aC (dV 0) (aC (d2 c0 (dV 1) (dC (.int 1))) (aC (dV 2) aN)))))) (av (bB 5 (d2 vP (dA e_ (aC (dC (.str "ab")) (aC (dC (.str "abc")) (aC (dC (.str "aab")) (aC (dC (.str "fa")) aN))))) (ak 3 aI (aC (dV 0) (aC (d2 c0 (dV 1) (dC (.int 2))) (aC (dC (.int 4)) aN)))))) (av (bB 6 (dA fv aN)) (av (fun ρ=>noex ((er (putN 7) (fun ρ=>(aC (dV 3) aN) ρ>>=jx) (cB [7,8] (av (bB 8 (bt 0 (fun ρ=>(aC (dV 4) aN) ρ>>=jx) du (d2 nI (dV 6) (ak 3 aI (aC (dV 1) (aC (d2 c0 (d2 c0 (d2 c0 (dV 2) (dC (.int 3))) (d2 f6 (dC (.int 7)) (dV 8))) (dV 0)) (aC (dA ba (aC (dV 6) aN)) aN))))))) (bB 6 (d2 tP (dV 6) (dA fv (aC (dM Ay joinM (dC (.str "")) (aC (dV 8) aN)) aN))))))) ρ)) (a9 (dV 6)))))))
def d7:List D→M D:=bU 9 (vi)
def sS:DS:=(fN (cP (bN (ak 1 gE (aC (dV 0) aN)))) (Jy 0 (aC (dC (.str "a tuple of 1 to 8 texts of 1 to 8 letters, all as long, is asked for")) aN)) cC)
def aE:List D→M D:=bU 1 (sS)
def sV:DS:=(av (ya 3 (fun ρ=>(dV 1) ρ>>=fun x=>(dC .non) ρ>>=fun y=>nu x y)) (av (bB 4 (dA e_ (aC (dV 1) aN))) (av (fun ρ=>noex ((wz (bN (dV 4)) (cB [5,6,7] (av (oT 5) (av (er (putN 6) (cO (dV 4)) (cB [6,7] (er (putN 7) (cO (ak 3 cq (aC (dV 0) (aC (dV 6) (aC (dV 2) aN))))) (cB [7] (fN (yd (cf (d2 (eu true) (dV 7) (dV 3)))) (av (fG 3 (dV 7) (dV 6)) (jf 5 (dV 7))) cC))))) (vr 5 (bB 4 (dV 5))))))) ρ)) (vr 3 (a9 (dV 3))))))
def aR:List D→M D:=bU 8 (sV)
def D5:DS:=(av (ez (ak 1 aE (aC (dV 0) aN))) (a9 (ak 1 dh (aC (dV 0) aN))))
def gD:List D→M D:=bU 1 (D5)
def wR:DS:=(av (ez (ak 1 aE (aC (dV 0) aN))) (av (ez (ak 2 bb (aC (dV 0) (aC (dV 1) aN)))) (av (ez (ak 1 bc (aC (dV 2) aN))) (a9 (dA iJ (aC (ak 3 aR (aC (dV 0) (aC (dV 1) (aC (dV 2) aN)))) aN))))))
def dP:List D→M D:=bU 3 (wR)
def vf:DS:=(av (ya 2 (EU (fun ρ=>(dV 1) ρ>>=fun x=>(dC (.int 0)) ρ>>=fun y=>nu x y) (fun ρ=>(dV 1) ρ>>=fun x=>(dC (.int 0)) ρ>>=fun y=>p3 x y))) (av (bB 3 (dA e_ (aC (dV 1) aN))) (av (fun ρ=>noex ((wz (bN (dV 3)) (cB [4,5,6] (av (oT 4) (av (er (putN 5) (cO (dV 3)) (cB [5,6] (er (putN 6) (Av (cO (d2 jX (dV 0) (dV 5))) (fun ρ=>(d2 jX (dV 0) (dV 5)) ρ>>=jl)) (cB [6] (fN (yd (cf (d2 (eu true) (dV 6) (dV 2)))) (av (fG 2 (dV 6) (Je (d2 c0 (d2 jX (dV 2) (dV 5)) (dC (.int 1))))) (jf 4 (dV 6))) cC))))) (vr 4 (bB 3 (dV 4))))))) ρ)) (vr 2 (a9 (dV 2))))))
def d6:List D→M D:=bU 7 (vf)
def pP:DS:=(fN (cP (bN (ak 1 bR (aC (dV 0) aN)))) (Jy 3 (aC (dC (.str "one of the letters a to f is asked for")) aN)) cC)
def cG:List D→M D:=bU 1 (pP)
def pf:DS:=(av (bB 3 (ak 1 cU (aC (dV 1) aN))) (av (oT 4) (av (fun ρ=>noex ((er (putN 5) (fun ρ=>(aC (dA ba (aC (dV 0) aN)) aN) ρ>>=jx) (cB [5,6] (av (bB 6 (ak 2 a6 (aC (dV 0) (aC (dV 5) aN)))) (jf 4 (dM Ay joinM (dC (.str "")) (aC (bt 0 (cO (dV 6)) du (Ea (cf (d2 (eu false) (dV 0) (dV 4))) (dV 3) (ak 2 aW (aC (dV 1) (aC (dV 0) aN))))) aN)))))) ρ)) (vr 4 (a9 (dA B0 (aC (dV 4) aN)))))))
def bH:List D→M D:=bU 7 (pf)
def sR:DS:=(av (bB 3 (ak 1 cU (aC (dV 1) aN))) (av (uP 4) (av (fun ρ=>noex ((er (putN 5) (cO (dV 1)) (cB [5] (fG 4 (dV 5) (bt 0 (cO (ak 3 a7 (aC (dV 0) (aC (dV 5) (aC (dV 2) aN))))) (cf (d2 (eu false) (dV 0) (dV 4))) (dV 0))))) ρ)) (vr 4 (a9 (dV 4))))))
def eD:List D→M D:=bU 6 (sR)
def wQ:DS:=(av (bB 3 (ak 3 eD (aC (dV 0) (aC (dV 1) (aC (dV 2) aN))))) (av (oT 4) (av (uP 5) (av (fun ρ=>noex ((er (putN 6) (cO (dV 1)) (cB [6,7] (fN (yd (cf (d2 (eu true) (dV 6) (dV 5)))) (av (bB 7 (dA t9 (aC (ak 2 d6 (aC (dV 3) (aC (dV 6) aN))) aN))) (av (jf 4 (dV 7)) (uQ 5 (ak 1 cU (aC (dV 7) aN))))) cC))) ρ)) (vr 4 (a9 (dV 4)))))))
def gF:List D→M D:=bU 8 (wQ)
def vj:DS:=(av (ez (ak 1 aE (aC (dV 0) aN))) (av (ez (ak 2 bb (aC (dV 0) (aC (dV 1) aN)))) (a9 (ak 2 aW (aC (dV 0) (aC (dV 1) aN))))))
def bS:List D→M D:=bU 2 (vj)
def pQ:DS:=(av (ez (ak 1 aE (aC (dV 0) aN))) (av (ez (ak 2 bb (aC (dV 0) (aC (dV 1) aN)))) (av (ez (ak 1 cG (aC (dV 2) aN))) (a9 (ak 3 bH (aC (dV 0) (aC (dA e_ (aC (dV 1) aN)) (aC (dV 2) aN))))))))
def cH:List D→M D:=bU 3 (pQ)
def B3:DS:=(av (ez (ak 1 aE (aC (dV 0) aN))) (av (ez (ak 2 bb (aC (dV 0) (aC (dV 1) aN)))) (av (ez (ak 1 bc (aC (dV 2) aN))) (a9 (ak 3 a7 (aC (dV 0) (aC (dV 1) (aC (dV 2) aN))))))))
def fV:List D→M D:=bU 3 (B3)
def pO:DS:=(av (oT 2) (av (uP 3) (av (fun ρ=>noex ((er (putN 4) (cO (ak 1 dh (aC (dV 0) aN))) (cB [4,5] (fN (yd (cf (d2 (eu true) (dV 4) (dV 3)))) (av (bB 5 (dA iJ (aC (ak 3 aR (aC (dV 0) (aC (dV 4) (aC (dV 1) aN)))) aN))) (av (jf 2 (dV 5)) (uQ 3 (ak 1 cU (aC (dV 5) aN))))) cC))) ρ)) (vr 2 (a9 (dV 2))))))
def aV:List D→M D:=bU 6 (pO)
def sT:DS:=(av (ez (ak 1 aE (aC (dV 0) aN))) (av (ez (ak 2 bb (aC (dV 0) (aC (dV 1) aN)))) (av (ez (ak 1 bc (aC (dV 2) aN))) (ez (ak 1 cG (aC (dV 3) aN))))))
def eE:List D→M D:=bU 4 (sT)
def lD:DS:=(av (bB 4 (bt 0 (cO (dV 2)) (cf (d2 kR (dV 0) (dV 4))) (dV 0))) (a9 (d2 Ei (dA ba (aC (ak 3 gF (aC (dV 0) (aC (dV 4) (aC (dV 1) aN)))) aN)) (dC (.int 1)))))
def aZ:List D→M D:=bU 5 (lD)
def wN:DS:=(av (ez (ak 1 aE (aC (dV 0) aN))) (av (ez (ak 1 bc (aC (dV 1) aN))) (a9 (dA ba (aC (ak 2 aV (aC (dV 0) (aC (dV 1) aN))) aN)))))
def cQ:List D→M D:=bU 2 (wN)
def B4:DS:=(av (ez (ak 4 eE (aC (dV 0) (aC (dV 1) (aC (dV 2) (aC (dV 3) aN)))))) (av (bB 4 (ak 3 bH (aC (dV 0) (aC (dA e_ (aC (dV 1) aN)) (aC (dV 3) aN))))) (a9 (d2 mq (dA ba (aC (ak 2 aV (aC (dV 4) (aC (dV 2) aN))) aN)) (dA ba (aC (ak 2 aV (aC (dV 0) (aC (dV 2) aN))) aN))))))
def cz:List D→M D:=bU 5 (B4)
def GP:DS:=(av (ez (ak 1 aE (aC (dV 0) aN))) (av (ez (ak 1 bc (aC (dV 1) aN))) (av (oT 2) (av (fun ρ=>noex ((er (putN 3) (cO (ak 2 aV (aC (dV 0) (aC (dV 1) aN)))) (cB [3] (wy 2 (bt 0 (cO (dV 3)) (bN (ak 4 aZ (aC (dV 1) (aC (dV 2) (aC (dV 4) (aC (dV 0) aN)))))) (dV 0))))) ρ)) (vr 2 (a9 (dA DW (aC (dV 2) aN))))))))
def nA:List D→M D:=bU 4 (GP)
def me:DS:=(bB 1 (ak 3 d7 (aC (dV 0) (aC (dC (.int 0)) (aC (dC (.int 4)) aN)))))
def mf:DS:=(bB 2 (d2 vP (dA e_ (aC (dC (.int 4)) (aC (dC (.int 8)) aN))) (ak 3 aI (aC (dV 0) (aC (dC (.int 60)) (aC (dC (.int 2)) aN))))))
def mh:DS:=(bB 3 (ak 2 nA (aC (dV 1) (aC (dV 2) aN))))
def mi:DS:=(fN (cf (d2 kR (dV 3) (d1 kH (dV 3)))) (a9 (dC (.bl false))) cC)
def mj:DS:=(fun ρ=>noex ((er (putN 4) (cO (ak 1 gD (aC (dV 1) aN))) (cB [4,5,6,7,8,9,10] (av (bB 5 (ak 3 dP (aC (dV 1) (aC (dV 4) (aC (dV 2) aN))))) (av (bB 6 (ak 4 cz (aC (dV 1) (aC (dV 4) (aC (dV 2) (aC (dC (.str "e")) aN)))))) (av (fN (ni (cf (d2 kR (d2 (jF false) (dV 4) (dV 3)) (d2 Ei (dV 6) (dC (.int 1))))) (nh (cf (d2 nH (dA ba (aC (dV 5) aN)) (dC (.int 1)))) (cf (d2 kR (dV 6) (dC (.int 0)))))) (a9 (dC (.bl false))) cC) (av (fN (nh (cf (d2 Ei (dA ba (aC (dV 5) aN)) (dC (.int 1)))) (nh (cf (d2 (jF true) (dV 4) (dV 3))) (cf (d2 kR (dV 6) (dC (.int 1)))))) (a9 (dC (.bl false))) cC) (av (bB 7 (bt 0 (cO (ak 3 fV (aC (dV 1) (aC (dV 4) (aC (dV 2) aN))))) (cf (d2 (jF false) (dV 0) (dV 6))) (dV 0))) (av (fN (nh (cf (d2 GV (dA ba (aC (dV 7) aN)) (dC (.int 2)))) (cf (d2 (jF false) (dV 4) (dV 3)))) (a9 (dC (.bl false))) cC) (av (bB 8 (d2 nI (dC (.str "abcf")) (ak 3 aI (aC (dV 0) (aC (d2 c0 (d2 c0 (dC (.int 61)) (d2 bw (dV 4) (dC (.int 0)))) (d2 f6 (dC (.int 5)) (d2 bw (dV 4) (dC (.int 1))))) (aC (dC (.int 4)) aN)))))) (av (bB 9 (ak 3 cH (aC (dV 1) (aC (dV 4) (aC (dV 8) aN))))) (av (bB 10 (ak 4 cz (aC (dV 1) (aC (dV 4) (aC (dV 2) (aC (dV 8) aN)))))) (av (fN (cf (d2 kR (d2 mq (ak 2 cQ (aC (dV 9) (aC (dV 2) aN))) (ak 2 cQ (aC (dV 1) (aC (dV 2) aN)))) (dV 10))) (a9 (dC (.bl false))) cC) (av (fN (cf (d2 kR (ak 4 cz (aC (dV 9) (aC (dV 4) (aC (dV 2) (aC (ak 2 bS (aC (dV 1) (aC (dV 4) aN))) aN))))) (d2 mq (dC (.int 0)) (dV 10)))) (a9 (dC (.bl false))) cC) (fN (cf (d2 kR (ak 4 cz (aC (dV 1) (aC (dV 4) (aC (dV 2) (aC (ak 2 bS (aC (dV 1) (aC (dV 4) aN))) aN))))) (dC (.int 0)))) (a9 (dC (.bl false))) cC)))))))))))))) ρ))
def ml:DS:=(a9 (Cy (d2 GV (dA ba (aC (dV 3) aN)) (dA ba (aC (ak 1 gD (aC (dV 1) aN)) aN))) (d2 nH (dV 3) (dA e_ aN))))
def lF:DS:=(av me (av mf (av mh (av mi (av mj ml)))))
def iU:List D→M D:=bU 11 lF
structure Bl (K:W.Frag) (mg:Str→Option Value) (base:Heap) (cv:Nat→Value) (cA:Nat→Addr) (Cp:Addr):Prop where
 len:mg "len"=none
 isinstance:mg "isinstance"=none
 all:mg "all"=none
 abs:mg "abs"=none
 max:mg "max"=none
 min:mg "min"=none
 range:mg "range"=none
 str:mg "str"=none
 int:mg "int"=none
 bool:mg "bool"=none
 tuple:mg "tuple"=none
 list:mg "list"=none
 set:mg "set"=none
 sorted:mg "sorted"=none
 LETTERS:∃t,mg "LETTERS"=some (.str "abcdef" t)
 MOST_ROWS:∃t,mg "MOST_ROWS"=some (.int 8 t)
 MOST_COLUMNS:∃t,mg "MOST_COLUMNS"=some (.int 8 t)
section
variable{P:Program}{w:World}{K:W.Frag}{mg:Str→Option Value}{base:Heap}{cv:Nat→Value}{cA:Nat→Addr}{Cp:Addr}{f:Addr}
abbrev jM:Stmt:=top 10
def oe:List Str:=["thing"]
def oF:List Str:=["thing"]
theorem uU:FnScope oe oF (ag jM):=⟨rfl,rfl,rfl,by decide+kernel,rfl,by decide+kernel,by decide+kernel⟩
theorem ux(B:Bl K mg base cv cA Cp)(T:bh K mg "is_whole" jM f):ah P w K mg base cv 1 "is_whole" 1 (bp):=
 aw (N:=oe) (ps:=oF) T uU (fun _ _ _ _ _ _ us hl=>match us,hl with | [_],_=>rfl) fun bQ A outer s H E hr=>
  (aq (ay (r9 (k_ rfl B.isinstance rfl (aa (ab (pv 0)) (aa (qB rfl B.int rfl) ae))) (sd (F8 (k_ rfl B.isinstance rfl (aa (ab (pv 0)) (aa (qB rfl B.bool rfl) ae))))))))
abbrev iB:Stmt:=top 11
def lM:List Str:=["thing"]
def lX:List Str:=["thing"]
theorem sC:FnScope lM lX (ag iB):=⟨rfl,rfl,rfl,by decide+kernel,rfl,by decide+kernel,by decide+kernel⟩
theorem rR(B:Bl K mg base cv cA Cp)(T:bh K mg "is_letter" iB f):ah P w K mg base cv 1 "is_letter" 1 (bR):=
 aw (N:=lM) (ps:=lX) T sC (fun _ _ _ _ _ _ us hl=>match us,hl with | [_],_=>rfl) fun bQ A outer s H E hr=>
  (aq (ay (r9 (k_ rfl B.isinstance rfl (aa (ab (pv 0)) (aa (qB rfl B.str rfl) ae))) (r9 (uH hr.units (bA rfl B.len (aa (ab (pv 0)) ae)) ar) (sd (FZ (ab (pv 0)) (Dq rfl B.LETTERS (by decide))))))))
abbrev dG:Stmt:=top 19
def dB:List Str:=["board","row"]
def ij:List Str:=["board","row"]
theorem mB:FnScope dB ij (ag dG):=⟨rfl,rfl,rfl,by decide+kernel,rfl,by decide+kernel,by decide+kernel⟩
theorem mx(B:Bl K mg base cv cA Cp)(T:bh K mg "cells_of_row" dG f):ah P w K mg base cv 1 "cells_of_row" 2 (a6):=
 aw (N:=dB) (ps:=ij) T mB (fun _ _ _ _ _ _ us hl=>match us,hl with | [_,_],_=>rfl) fun bQ A outer s H E hr=>
  (aq (ay (fB (tn:=["column"]) (n:=0) (b7 (N:=dB) (osc:=(ag dG)) rfl rfl (by decide+kernel)) rfl rfl (fe rfl B.range (aa (bA rfl B.len (aa (b0 (ab (pv 0)) ar) ae)) ae)) (fun _ _ _ _ _ _ _=>dI (show List.Nodup (((["column"]:List Str))++di ["column"] dB) by decide+kernel) rfl rfl) (fun _ _ _ _ _ _=>gn) (fun _ _ _ _ _ _=>(lb (aa (ab (pv 2)) (aa (ab (pv 0)) ae)))))))
abbrev iE:Stmt:=top 21
def lP:List Str:=["board","cell"]
def l7:List Str:=["board","cell"]
theorem sE:FnScope lP l7 (ag iE):=⟨rfl,rfl,rfl,by decide+kernel,rfl,by decide+kernel,by decide+kernel⟩
theorem rV(B:Bl K mg base cv cA Cp)(T:bh K mg "letter_of" iE f):ah P w K mg base cv 1 "letter_of" 2 (aW):=
 aw (N:=lP) (ps:=l7) T sE (fun _ _ _ _ _ _ us hl=>match us,hl with | [_,_],_=>rfl) fun bQ A outer s H E hr=>
  (aq (ay (wq (b0 (ab (pv 0)) (b0 (ab (pv 1)) ar)) (b0 (ab (pv 1)) ar))))
abbrev jK:Stmt:=top 22
def n_:List Str:=["one","other","ways","down","along"]
def oC:List Str:=["one","other","ways"]
theorem iH:FnScope n_ oC (ag jK):=⟨rfl,rfl,rfl,by decide+kernel,rfl,by decide+kernel,by decide+kernel⟩
theorem uu(B:Bl K mg base cv cA Cp)(T:bh K mg "are_next" jK f):ah P w K mg base cv 1 "are_next" 3 (de):=
 aw (N:=n_) (ps:=oC) T iH (fun _ _ _ _ _ _ us hl=>match us,hl with | [_,_,_],_=>rfl) fun bQ A outer s H E hr=>
  (af (aS iH.nd rfl (by first | exact .inl rfl | exact .inr rfl) (Bb rfl B.abs (aa (jJ (b0 (ab (pv 0)) ar) (b0 (ab (pv 1)) ar)) ae) rfl)) (af (aS iH.nd rfl (by first | exact .inl rfl | exact .inr rfl) (Bb rfl B.abs (aa (jJ (b0 (ab (pv 0)) ar) (b0 (ab (pv 1)) ar)) ae) rfl)) (af (bI (xW hr.units (ab (pv 2)) ar) (aq (ay (uH hr.units (cJ (ab (pv 3)) (ab (pv 4))) ar))) a8) (aq (ay (uH hr.units (wt rfl rfl B.max rfl (aa (ab (pv 3)) (aa (ab (pv 4)) ae))) ar))))))
abbrev sy:Stmt:=top 24
def xE:List Str:=["things","found","thing"]
def xK:List Str:=["things"]
theorem oW:FnScope xE xK (ag sy):=⟨rfl,rfl,rfl,by decide+kernel,rfl,by decide+kernel,by decide+kernel⟩
theorem A3(B:Bl K mg base cv cA Cp)(T:bh K mg "keyed" sy f):ah P w K mg base cv 1 "keyed" 1 (cU):=
 aw (N:=xE) (ps:=xK) T oW (fun _ _ _ _ _ _ us hl=>match us,hl with | [_],_=>rfl) fun bQ A outer s H E hr=>
  (af (kx oW.nd rfl (by first | exact .inl rfl | exact .inr rfl)) (af (da (cx PassesOwn.never rfl (xS (bD (ab (pv 0))) (uI (ab (pv 0)))) (bE oW.nd rfl (by first | exact .inl rfl | exact .inr rfl)) bJ (bu (aq (ky hr.units (pv 1) (ab (pv 2)) gc))))) (aq (c_ (i:=1) (ay (ab (pv 1)))))))
abbrev iA:Stmt:=top 35
def lL:List Str:=["near","start","far","ring","further","thing","other"]
def lW:List Str:=["near","start"]
theorem cy:FnScope lL lW (ag iA):=⟨rfl,rfl,rfl,by decide+kernel,rfl,by decide+kernel,by decide+kernel⟩
theorem rQ(B:Bl K mg base cv cA Cp)(T:bh K mg "distances" iA f):ah P w K mg base cv 1 "distances" 2 (d6):=
 aw (N:=lL) (ps:=lW) T cy (fun _ _ _ _ _ _ us hl=>match us,hl with | [_,_],_=>rfl) fun bQ A outer s H E hr=>
  (af (uJ cy.nd rfl (by first | exact .inl rfl | exact .inr rfl) (Dr (qC hr.units (ab (pv 1)) ar) (zg hr.units (ab (pv 1)) ar))) (af (aS cy.nd rfl (by first | exact .inl rfl | exact .inr rfl) (ip (aa (ab (pv 1)) ae))) (af (da (qE PassesOwn.never (cM (ab (pv 3))) (bu (af (fC cy.nd rfl (by first | exact .inl rfl | exact .inr rfl)) (af (cx PassesOwn.never rfl (bD (ab (pv 3))) (bE cy.nd rfl (by first | exact .inl rfl | exact .inr rfl)) bJ (bu (aq (cx PassesOwn.never rfl (xS (bD (wo hr.units (ab (pv 0)) (ab (pv 5)))) (uI (wo hr.units (ab (pv 0)) (ab (pv 5))))) (bE cy.nd rfl (by first | exact .inl rfl | exact .inr rfl)) bJ (bu (aq (bI (se (i9 hr.units (ab (pv 6)) (ab (pv 2)))) (af (ky hr.units (pv 2) (ab (pv 6)) (Iy (cJ (wo hr.units (ab (pv 2)) (ab (pv 5))) ar))) (aq (i7 (pv 4) (ab (pv 6))))) a8))))))) (aq (c_ (i:=4) (aS cy.nd rfl (by first | exact .inl rfl | exact .inr rfl) (ab (pv 4)))))))))) (aq (c_ (i:=2) (ay (ab (pv 2))))))))
abbrev jN:Stmt:=top 45
def og:List Str:=["_law_script","_law_k"]
def oG:List Str:=["_law_script","_law_k"]
theorem uV:FnScope og oG (ag jN):=⟨rfl,rfl,rfl,by decide+kernel,rfl,by decide+kernel,by decide+kernel⟩
theorem uy(B:Bl K mg base cv cA Cp)(T:bh K mg "_law_cell" jN f):ah P w K mg base cv 1 "_law_cell" 2 (eX):=
 aw (N:=og) (ps:=oG) T uV (fun _ _ _ _ _ _ us hl=>match us,hl with | [_,_],_=>rfl) fun bQ A outer s H E hr=>
  (af (bI (xW hr.units (ab (pv 0)) (ip ae)) (aq (ay (iq ar (ab (pv 1))))) a8) (aq (ay (cJ (F4 (ab (pv 0)) (la (ab (pv 1)) (bA rfl B.len (aa (ab (pv 0)) ae)))) (iq ar (r_ (ab (pv 1)) (bA rfl B.len (aa (ab (pv 0)) ae))))))))
abbrev kD:Stmt:=top 12
def j9:List Str:=["thing"]
def uG:List Str:=["thing"]
theorem zp:FnScope j9 uG (ag kD):=⟨rfl,rfl,rfl,by decide+kernel,rfl,by decide+kernel,by decide+kernel⟩
theorem y8(B:Bl K mg base cv cA Cp)(g_:ah P w K mg base cv 1 "is_letter" 1 bR)(T:bh K mg "is_row" kD f):ah P w K mg base cv 2 "is_row" 1 (eW):=
 aw (N:=j9) (ps:=uG) T zp (fun _ _ _ _ _ _ us hl=>match us,hl with | [_],_=>rfl) fun bQ A outer s H E hr=>
  (af (bI (PDW.t (lg (c9 (cM (k_ rfl B.isinstance rfl (aa (ab (pv 0)) (aa (qB rfl B.str rfl) ae))))) (i6 (c9 (Bs qt qt ar (bA rfl B.len (aa (ab (pv 0)) ae)) (xO rfl B.MOST_COLUMNS)))))) (aq (ay gc)) a8) (aq (ay (wm rfl rfl B.all rfl (aa (fB (tn:=["sign"]) (n:=0) (b7 (N:=j9) (osc:=(ag kD)) rfl rfl (by decide+kernel)) rfl rfl (Ds (ab (pv 0))) (fun _ _ _ _ _ _ _=>dI (show List.Nodup (((["sign"]:List Str))++di ["sign"] j9) by decide+kernel) rfl rfl) (fun _ _ _ _ _ _=>gn) (fun _ _ _ _ _ _=>(aK g_ (hr.mono (by decide)) rfl bL (aa (ab (pv 0)) ae) rfl))) ae)))))
abbrev ly:Stmt:=top 14
def qp:List Str:=["board","thing"]
def qy:List Str:=["board","thing"]
theorem wA:FnScope qp qy (ag ly):=⟨rfl,rfl,rfl,by decide+kernel,rfl,by decide+kernel,by decide+kernel⟩
theorem we(B:Bl K mg base cv cA Cp)(gx:ah P w K mg base cv 1 "is_whole" 1 bp)(T:bh K mg "is_cell" ly f):ah P w K mg base cv 2 "is_cell" 2 (iT):=
 aw (N:=qp) (ps:=qy) T wA (fun _ _ _ _ _ _ us hl=>match us,hl with | [_,_],_=>rfl) fun bQ A outer s H E hr=>
  (af (bI (PDW.t (lg (c9 (cM (k_ rfl B.isinstance rfl (aa (ab (pv 1)) (aa (qB rfl B.tuple rfl) ae))))) (i6 (kz hr.units (bA rfl B.len (aa (ab (pv 1)) ae)) ar)))) (aq (ay gc)) a8) (af (bI (PDW.t (lg (c9 (cM (aK gx (hr.mono (by decide)) rfl aQ (aa (b0 (ab (pv 1)) ar) ae) rfl))) (i6 (c9 (cM (aK gx (hr.mono (by decide)) rfl aQ (aa (b0 (ab (pv 1)) ar) ae) rfl)))))) (aq (ay gc)) a8) (aq (ay (r9 (Bc qt xH ar (b0 (ab (pv 1)) ar) (bA rfl B.len (aa (ab (pv 0)) ae))) (sd (Bc qt xH ar (b0 (ab (pv 1)) ar) (bA rfl B.len (aa (b0 (ab (pv 0)) ar) ae)))))))))
abbrev fP:Stmt:=top 17
def jo:List Str:=["thing"]
def jv:List Str:=["thing"]
theorem oX:FnScope jo jv (ag fP):=⟨rfl,rfl,rfl,by decide+kernel,rfl,by decide+kernel,by decide+kernel⟩
theorem oz(B:Bl K mg base cv cA Cp)(g_:ah P w K mg base cv 1 "is_letter" 1 bR)(T:bh K mg "need_letter" fP f):ah P w K mg base cv 2 "need_letter" 1 (cG):=
 aw (N:=jo) (ps:=jv) T oX (fun _ _ _ _ _ _ us hl=>match us,hl with | [_],_=>rfl) fun bQ A outer s H E hr=>
  (aq (bI (c9 (cM (aK g_ (hr.mono (by decide)) rfl aQ (aa (ab (pv 0)) ae) rfl))) (aq i8) a8))
abbrev iG:Stmt:=top 18
def lR:List Str:=["thing"]
def l9:List Str:=["thing"]
theorem sG:FnScope lR l9 (ag iG):=⟨rfl,rfl,rfl,by decide+kernel,rfl,by decide+kernel,by decide+kernel⟩
theorem rX(B:Bl K mg base cv cA Cp)(gx:ah P w K mg base cv 1 "is_whole" 1 bp)(T:bh K mg "need_ways" iG f):ah P w K mg base cv 2 "need_ways" 1 (bc):=
 aw (N:=lR) (ps:=l9) T sG (fun _ _ _ _ _ _ us hl=>match us,hl with | [_],_=>rfl) fun bQ A outer s H E hr=>
  (aq (bI (PDW.t (lg (c9 (cM (aK gx (hr.mono (by decide)) rfl aQ (aa (ab (pv 0)) ae) rfl))) (i6 (zk (ab (pv 0)) (lb (aa ar (aa ar ae))))))) (aq i8) a8))
abbrev iz:Stmt:=top 20
def lK:List Str:=["board","found","row"]
def lV:List Str:=["board"]
theorem gT:FnScope lK lV (ag iz):=⟨rfl,rfl,rfl,by decide+kernel,rfl,by decide+kernel,by decide+kernel⟩
theorem rP(B:Bl K mg base cv cA Cp)(eS:ah P w K mg base cv 1 "cells_of_row" 2 a6)(T:bh K mg "all_cells" iz f):ah P w K mg base cv 2 "all_cells" 1 (dh):=
 aw (N:=lK) (ps:=lV) T gT (fun _ _ _ _ _ _ us hl=>match us,hl with | [_],_=>rfl) fun bQ A outer s H E hr=>
  (af (fC gT.nd rfl (by first | exact .inl rfl | exact .inr rfl)) (af (da (cx PassesOwn.never rfl (fe rfl B.range (aa (bA rfl B.len (aa (ab (pv 0)) ae)) ae)) (bE gT.nd rfl (by first | exact .inl rfl | exact .inr rfl)) bJ (bu (aq (xU (pv 1) (aK eS (hr.mono (by decide)) rfl bL (aa (ab (pv 0)) (aa (ab (pv 2)) ae)) rfl)))))) (aq (c_ (i:=1) (ay (ab (pv 1)))))))
abbrev gR:Stmt:=top 23
def ke:List Str:=["board","cell","ways","found","row","column"]
def kr:List Str:=["board","cell","ways"]
theorem d4:FnScope ke kr (ag gR):=⟨rfl,rfl,rfl,by decide+kernel,rfl,by decide+kernel,by decide+kernel⟩
theorem pH(B:Bl K mg base cv cA Cp)(vB:ah P w K mg base cv 1 "are_next" 3 de)(T:bh K mg "next_cells" gR f):ah P w K mg base cv 2 "next_cells" 3 (a7):=
 aw (N:=ke) (ps:=kr) T d4 (fun _ _ _ _ _ _ us hl=>match us,hl with | [_,_,_],_=>rfl) fun bQ A outer s H E hr=>
  (af (fC d4.nd rfl (by first | exact .inl rfl | exact .inr rfl)) (af (da (cx PassesOwn.never rfl (oM rfl B.range (aa (wt rfl rfl B.max rfl (aa (jJ (b0 (ab (pv 1)) ar) ar) (aa ar ae))) (aa (Bf rfl rfl B.min rfl (aa (cJ (b0 (ab (pv 1)) ar) ar) (aa (bA rfl B.len (aa (ab (pv 0)) ae)) ae))) ae))) (bE d4.nd rfl (by first | exact .inl rfl | exact .inr rfl)) bJ (bu (aq (cx PassesOwn.never rfl (oM rfl B.range (aa (wt rfl rfl B.max rfl (aa (jJ (b0 (ab (pv 1)) ar) ar) (aa ar ae))) (aa (Bf rfl rfl B.min rfl (aa (cJ (b0 (ab (pv 1)) ar) ar) (aa (bA rfl B.len (aa (b0 (ab (pv 0)) ar) ae)) ae))) ae))) (bE d4.nd rfl (by first | exact .inl rfl | exact .inr rfl)) bJ (bu (aq (bI (cM (aK vB (hr.mono (by decide)) rfl bL (aa (ab (pv 1)) (aa (lb (aa (ab (pv 4)) (aa (ab (pv 5)) ae))) (aa (ab (pv 2)) ae))) rfl)) (aq (i7 (pv 3) (lb (aa (ab (pv 4)) (aa (ab (pv 5)) ae))))) a8)))))))) (aq (c_ (i:=3) (ay (ab (pv 3)))))))
abbrev dH:Stmt:=top 25
def dD:List Str:=["board","some","letter","marked","told","row","places"]
def ik:List Str:=["board","some","letter"]
theorem cE:FnScope dD ik (ag dH):=⟨rfl,rfl,rfl,by decide+kernel,rfl,by decide+kernel,by decide+kernel⟩
theorem my(B:Bl K mg base cv cA Cp)(gy:ah P w K mg base cv 1 "keyed" 1 cU)(eS:ah P w K mg base cv 1 "cells_of_row" 2 a6)(df:ah P w K mg base cv 1 "letter_of" 2 aW)(T:bh K mg "with_letters" dH f):ah P w K mg base cv 2 "with_letters" 3 (bH):=
 aw (N:=dD) (ps:=ik) T cE (fun _ _ _ _ _ _ us hl=>match us,hl with | [_,_,_],_=>rfl) fun bQ A outer s H E hr=>
  (af (aS cE.nd rfl (by first | exact .inl rfl | exact .inr rfl) (aK gy (hr.mono (by decide)) rfl aQ (aa (ab (pv 1)) ae) rfl)) (af (fC cE.nd rfl (by first | exact .inl rfl | exact .inr rfl)) (af (da (cx PassesOwn.never rfl (fe rfl B.range (aa (bA rfl B.len (aa (ab (pv 0)) ae)) ae)) (bE cE.nd rfl (by first | exact .inl rfl | exact .inr rfl)) bJ (bu (af (aS cE.nd rfl (by first | exact .inl rfl | exact .inr rfl) (aK eS (hr.mono (by decide)) rfl bL (aa (ab (pv 0)) (aa (ab (pv 5)) ae)) rfl)) (aq (i7 (pv 4) (xQ ir (aa (fB (tn:=["cell"]) (n:=0) (b7 (N:=dD) (osc:=(ag dH)) rfl rfl (by decide+kernel)) rfl rfl (bD (ab (pv 6))) (fun _ _ _ _ _ _ _=>dI (show List.Nodup (((["cell"]:List Str))++di ["cell"] dD) by decide+kernel) rfl rfl) (fun _ _ _ _ _ _=>gn) (fun _ _ _ _ _ _=>(Iu (Bu hr.units (ab (pv 0)) (ab (pv 4))) (ab (pv 3)) (aK df (hr.mono (by decide)) rfl bL (aa (ab (pv 1)) (aa (ab (pv 0)) ae)) rfl)))) ae)))))))) (aq (c_ (i:=4) (ay (Bg rfl B.tuple rfl (aa (ab (pv 4)) ae))))))))
abbrev iC:Stmt:=top 46
def lN:List Str:=["_law_script","_law_k","_law_many","_law_cell_here"]
def lZ:List Str:=["_law_script","_law_k","_law_many"]
theorem gU:FnScope lN lZ (ag iC):=⟨rfl,rfl,rfl,by decide+kernel,rfl,by decide+kernel,by decide+kernel⟩
theorem rT(B:Bl K mg base cv cA Cp)(vE:ah P w K mg base cv 1 "_law_cell" 2 eX)(T:bh K mg "_law_drawn" iC f):ah P w K mg base cv 2 "_law_drawn" 3 (aI):=
 aw (N:=lN) (ps:=lZ) T gU (fun _ _ _ _ _ _ us hl=>match us,hl with | [_,_,_],_=>rfl) fun bQ A outer s H E hr=>
  (af (aS gU.nd rfl (by first | exact .inl rfl | exact .inr rfl) (la (cJ (iq (la (aK vE (hr.mono (by decide)) rfl aQ (aa (ab (pv 0)) (aa (ab (pv 1)) ae)) rfl) ar) ar) (iq ar (cJ (ab (pv 1)) ar))) ar)) (af (aS gU.nd rfl (by first | exact .inl rfl | exact .inr rfl) (la (cJ (iq (ab (pv 3)) (ab (pv 3))) (r_ (ab (pv 3)) ar)) ar)) (aq (ay (la (r_ (la (cJ (iq (ab (pv 3)) (ab (pv 3))) (r_ (ab (pv 3)) ar)) ar) ar) (ab (pv 2)))))))
abbrev fg:Stmt:=top 13
def dW:List Str:=["thing"]
def oE:List Str:=["thing"]
theorem uT:FnScope dW oE (ag fg):=⟨rfl,rfl,rfl,by decide+kernel,rfl,by decide+kernel,by decide+kernel⟩
theorem uw(B:Bl K mg base cv cA Cp)(zS:ah P w K mg base cv 2 "is_row" 1 eW)(T:bh K mg "is_board" fg f):ah P w K mg base cv 3 "is_board" 1 (gE):=
 aw (N:=dW) (ps:=oE) T uT (fun _ _ _ _ _ _ us hl=>match us,hl with | [_],_=>rfl) fun bQ A outer s H E hr=>
  (af (bI (PDW.t (lg (c9 (cM (k_ rfl B.isinstance rfl (aa (ab (pv 0)) (aa (qB rfl B.tuple rfl) ae))))) (i6 (c9 (Bs qt qt ar (bA rfl B.len (aa (ab (pv 0)) ae)) (xO rfl B.MOST_ROWS)))))) (aq (ay gc)) a8) (af (bI (c9 (cM (wm rfl rfl B.all rfl (aa (fB (tn:=["row"]) (n:=0) (b7 (N:=dW) (osc:=(ag fg)) rfl rfl (by decide+kernel)) rfl rfl (xT (ab (pv 0))) (fun _ _ _ _ _ _ _=>dI (show List.Nodup (((["row"]:List Str))++di ["row"] dW) by decide+kernel) rfl rfl) (fun _ _ _ _ _ _=>gn) (fun _ _ _ _ _ _=>(aK zS (hr.mono (by decide)) rfl bL (aa (ab (pv 0)) ae) rfl))) ae)))) (aq (ay gc)) a8) (aq (ay (wm rfl rfl B.all rfl (aa (fB (tn:=["row"]) (n:=0) (b7 (N:=dW) (osc:=(ag fg)) rfl rfl (by decide+kernel)) rfl rfl (xT (ab (pv 0))) (fun _ _ _ _ _ _ _=>dI (show List.Nodup (((["row"]:List Str))++di ["row"] dW) by decide+kernel) rfl rfl) (fun _ _ _ _ _ _=>gn) (fun _ _ _ _ _ _=>(uH hr.units (bA rfl B.len (aa (ab (pv 0)) ae)) (bA rfl B.len (aa (b0 (ab (pv 1)) ar) ae))))) ae))))))
abbrev iF:Stmt:=top 16
def lQ:List Str:=["board","thing"]
def l8:List Str:=["board","thing"]
theorem sF:FnScope lQ l8 (ag iF):=⟨rfl,rfl,rfl,by decide+kernel,rfl,by decide+kernel,by decide+kernel⟩
theorem rW(B:Bl K mg base cv cA Cp)(yr:ah P w K mg base cv 2 "is_cell" 2 iT)(T:bh K mg "need_cell" iF f):ah P w K mg base cv 3 "need_cell" 2 (bb):=
 aw (N:=lQ) (ps:=l8) T sF (fun _ _ _ _ _ _ us hl=>match us,hl with | [_,_],_=>rfl) fun bQ A outer s H E hr=>
  (aq (bI (c9 (cM (aK yr (hr.mono (by decide)) rfl aQ (aa (ab (pv 0)) (aa (ab (pv 1)) ae)) rfl))) (aq i8) a8))
abbrev eJ:Stmt:=top 31
def eF:List Str:=["board","cell","ways","letter"]
def kj:List Str:=["board","cell","ways"]
theorem jy:FnScope eF kj (ag eJ):=⟨rfl,rfl,rfl,by decide+kernel,rfl,by decide+kernel,by decide+kernel⟩
theorem pD(B:Bl K mg base cv cA Cp)(df:ah P w K mg base cv 1 "letter_of" 2 aW)(dq:ah P w K mg base cv 2 "next_cells" 3 a7)(T:bh K mg "like_cells" eJ f):ah P w K mg base cv 3 "like_cells" 3 (cq):=
 aw (N:=eF) (ps:=kj) T jy (fun _ _ _ _ _ _ us hl=>match us,hl with | [_,_,_],_=>rfl) fun bQ A outer s H E hr=>
  (af (aS jy.nd rfl (by first | exact .inl rfl | exact .inr rfl) (aK df (hr.mono (by decide)) rfl aQ (aa (ab (pv 0)) (aa (ab (pv 1)) ae)) rfl)) (aq (ay (fB (tn:=["near"]) (n:=0) (b7 (N:=eF) (osc:=(ag eJ)) rfl rfl (by decide+kernel)) rfl rfl (bD (aK dq (hr.mono (by decide)) rfl aQ (aa (ab (pv 0)) (aa (ab (pv 1)) (aa (ab (pv 2)) ae))) rfl)) (fun _ _ _ _ _ _ _=>dI (show List.Nodup (((["near"]:List Str))++di ["near"] eF) by decide+kernel) rfl rfl) (fun _ _ _ _ _ _=>(iO (xW hr.units (aK df (hr.mono (by decide)) rfl bL (aa (ab (pv 1)) (aa (ab (pv 0)) ae)) rfl) (ab (pv 4))))) (fun _ _ _ _ _ _=>(ab (pv 0)))))))
abbrev eK:Stmt:=top 34
def eG:List Str:=["board","some","ways","among","near","cell"]
def kl:List Str:=["board","some","ways"]
theorem d3:FnScope eG kl (ag eK):=⟨rfl,rfl,rfl,by decide+kernel,rfl,by decide+kernel,by decide+kernel⟩
theorem pE(B:Bl K mg base cv cA Cp)(gy:ah P w K mg base cv 1 "keyed" 1 cU)(dq:ah P w K mg base cv 2 "next_cells" 3 a7)(T:bh K mg "near_among" eK f):ah P w K mg base cv 3 "near_among" 3 (eD):=
 aw (N:=eG) (ps:=kl) T d3 (fun _ _ _ _ _ _ us hl=>match us,hl with | [_,_,_],_=>rfl) fun bQ A outer s H E hr=>
  (af (aS d3.nd rfl (by first | exact .inl rfl | exact .inr rfl) (aK gy (hr.mono (by decide)) rfl aQ (aa (ab (pv 1)) ae) rfl)) (af (kx d3.nd rfl (by first | exact .inl rfl | exact .inr rfl)) (af (da (cx PassesOwn.never rfl (bD (ab (pv 1))) (bE d3.nd rfl (by first | exact .inl rfl | exact .inr rfl)) bJ (bu (aq (ky hr.units (pv 4) (ab (pv 5)) (fB (tn:=["other"]) (n:=0) (b7 (N:=eG) (osc:=(ag eK)) rfl rfl (by decide+kernel)) rfl rfl (bD (aK dq (hr.mono (by decide)) rfl bL (aa (ab (pv 0)) (aa (ab (pv 5)) (aa (ab (pv 2)) ae))) rfl)) (fun _ _ _ _ _ _ _=>dI (show List.Nodup (((["other"]:List Str))++di ["other"] eG) by decide+kernel) rfl rfl) (fun _ _ _ _ _ _=>(iO (Bu hr.units (ab (pv 0)) (ab (pv 4))))) (fun _ _ _ _ _ _=>(ab (pv 0))))))))) (aq (c_ (i:=4) (ay (ab (pv 4))))))))
abbrev fH:Stmt:=top 47
def fw:List Str:=["_law_script","_law_at","_law_most","_law_rows","_law_wide","_law_alphabet","_law_found","_law_row","_law_signs"]
def lY:List Str:=["_law_script","_law_at","_law_most"]
theorem bV:FnScope fw lY (ag fH):=⟨rfl,rfl,rfl,by decide+kernel,rfl,by decide+kernel,by decide+kernel⟩
set_option maxHeartbeats 4000000 in
theorem rS(B:Bl K mg base cv cA Cp)(br:ah P w K mg base cv 2 "_law_drawn" 3 aI)(T:bh K mg "_law_board" fH f):ah P w K mg base cv 3 "_law_board" 3 (d7):=
 aw (N:=fw) (ps:=lY) T bV (fun _ _ _ _ _ _ us hl=>match us,hl with | [_,_,_],_=>rfl) fun bQ A outer s H E hr=>
  (af (aS bV.nd rfl (by first | exact .inl rfl | exact .inr rfl) (cJ ar (aK br (hr.mono (by decide)) rfl aQ (aa (ab (pv 0)) (aa (ab (pv 1)) (aa (ab (pv 2)) ae))) rfl))) (af (aS bV.nd rfl (by first | exact .inl rfl | exact .inr rfl) (cJ ar (aK br (hr.mono (by decide)) rfl aQ (aa (ab (pv 0)) (aa (cJ (ab (pv 1)) ar) (aa (ab (pv 2)) ae))) rfl))) (af (aS bV.nd rfl (by first | exact .inl rfl | exact .inr rfl) (Bd (ip (aa ir (aa ir (aa ir (aa ir ae))))) (aK br (hr.mono (by decide)) rfl aQ (aa (ab (pv 0)) (aa (cJ (ab (pv 1)) ar) (aa ar ae))) rfl))) (af (aS bV.nd rfl (by first | exact .inl rfl | exact .inr rfl) (lb ae)) (af (da (cx PassesOwn.never rfl (fe rfl B.range (aa (ab (pv 3)) ae)) (bE bV.nd rfl (by first | exact .inl rfl | exact .inr rfl)) bJ (bu (af (iu (tn:=["_law_k"]) (n:=0) bV.nd rfl (by first | exact .inl rfl | exact .inr rfl) (b7 (N:=fw) (osc:=(ag fH)) rfl rfl (by decide+kernel)) rfl rfl (fe rfl B.range (aa (ab (pv 4)) ae)) (fun _ _ _ _ _ _ _=>dI (show List.Nodup (((["_law_k"]:List Str))++di ["_law_k"] fw) by decide+kernel) rfl rfl) (fun _ _ _ _ _ _=>gn) (fun _ _ _ _ _ _=>(wq (ab (pv 6)) (aK br (hr.mono (by decide)) rfl bL (aa (ab (pv 1)) (aa (cJ (cJ (cJ (ab (pv 2)) ar) (iq ar (ab (pv 8)))) (ab (pv 0))) (aa (bA rfl B.len (aa (ab (pv 6)) ae)) ae))) rfl)))) (aq (aS bV.nd rfl (by first | exact .inl rfl | exact .inr rfl) (Dp (ab (pv 6)) (lb (aa (xQ ir (aa (ab (pv 8)) ae)) ae))))))))) (aq (ay (ab (pv 6)))))))))
abbrev gP:Stmt:=top 15
def j_:List Str:=["thing"]
def km:List Str:=["thing"]
theorem pK:FnScope j_ km (ag gP):=⟨rfl,rfl,rfl,by decide+kernel,rfl,by decide+kernel,by decide+kernel⟩
theorem pF(B:Bl K mg base cv cA Cp)(vD:ah P w K mg base cv 3 "is_board" 1 gE)(T:bh K mg "need_board" gP f):ah P w K mg base cv 4 "need_board" 1 (aE):=
 aw (N:=j_) (ps:=km) T pK (fun _ _ _ _ _ _ us hl=>match us,hl with | [_],_=>rfl) fun bQ A outer s H E hr=>
  (aq (bI (c9 (cM (aK vD (hr.mono (by decide)) rfl aQ (aa (ab (pv 0)) ae) rfl))) (aq i8) a8))
abbrev gS:Stmt:=top 32
def kf:List Str:=["board","start","ways","back","ring","further","cell","near"]
def ku:List Str:=["board","start","ways"]
theorem b5:FnScope kf ku (ag gS):=⟨rfl,rfl,rfl,by decide+kernel,rfl,by decide+kernel,by decide+kernel⟩
theorem pI(B:Bl K mg base cv cA Cp)(qZ:ah P w K mg base cv 3 "like_cells" 3 cq)(T:bh K mg "steps_back" gS f):ah P w K mg base cv 4 "steps_back" 3 (aR):=
 aw (N:=kf) (ps:=ku) T b5 (fun _ _ _ _ _ _ us hl=>match us,hl with | [_,_,_],_=>rfl) fun bQ A outer s H E hr=>
  (af (uJ b5.nd rfl (by first | exact .inl rfl | exact .inr rfl) (qC hr.units (ab (pv 1)) F7)) (af (aS b5.nd rfl (by first | exact .inl rfl | exact .inr rfl) (ip (aa (ab (pv 1)) ae))) (af (da (qE PassesOwn.never (cM (ab (pv 4))) (bu (af (fC b5.nd rfl (by first | exact .inl rfl | exact .inr rfl)) (af (cx PassesOwn.never rfl (bD (ab (pv 4))) (bE b5.nd rfl (by first | exact .inl rfl | exact .inr rfl)) bJ (bu (aq (cx PassesOwn.never rfl (bD (aK qZ (hr.mono (by decide)) rfl bL (aa (ab (pv 0)) (aa (ab (pv 6)) (aa (ab (pv 2)) ae))) rfl)) (bE b5.nd rfl (by first | exact .inl rfl | exact .inr rfl)) bJ (bu (aq (bI (se (i9 hr.units (ab (pv 7)) (ab (pv 3)))) (af (ky hr.units (pv 3) (ab (pv 7)) (ab (pv 6))) (aq (i7 (pv 5) (ab (pv 7))))) a8))))))) (aq (c_ (i:=5) (aS b5.nd rfl (by first | exact .inl rfl | exact .inr rfl) (ab (pv 5)))))))))) (aq (c_ (i:=3) (ay (ab (pv 3))))))))
abbrev jO:Stmt:=top 36
def oj:List Str:=["board","some","ways","near","parts","seen","cell","part"]
def oH:List Str:=["board","some","ways"]
theorem dm:FnScope oj oH (ag jO):=⟨rfl,rfl,rfl,by decide+kernel,rfl,by decide+kernel,by decide+kernel⟩
theorem uz(B:Bl K mg base cv cA Cp)(q0:ah P w K mg base cv 3 "near_among" 3 eD)(tj:ah P w K mg base cv 1 "distances" 2 d6)(gy:ah P w K mg base cv 1 "keyed" 1 cU)(T:bh K mg "parts_of" jO f):ah P w K mg base cv 4 "parts_of" 3 (gF):=
 aw (N:=oj) (ps:=oH) T dm (fun _ _ _ _ _ _ us hl=>match us,hl with | [_,_,_],_=>rfl) fun bQ A outer s H E hr=>
  (af (aS dm.nd rfl (by first | exact .inl rfl | exact .inr rfl) (aK q0 (hr.mono (by decide)) rfl aQ (aa (ab (pv 0)) (aa (ab (pv 1)) (aa (ab (pv 2)) ae))) rfl)) (af (fC dm.nd rfl (by first | exact .inl rfl | exact .inr rfl)) (af (kx dm.nd rfl (by first | exact .inl rfl | exact .inr rfl)) (af (da (cx PassesOwn.never rfl (bD (ab (pv 1))) (bE dm.nd rfl (by first | exact .inl rfl | exact .inr rfl)) bJ (bu (aq (bI (se (i9 hr.units (ab (pv 6)) (ab (pv 5)))) (af (aS dm.nd rfl (by first | exact .inl rfl | exact .inr rfl) (Be rfl rfl B.list rfl (aa (aK tj (hr.mono (by decide)) rfl bL (aa (ab (pv 3)) (aa (ab (pv 6)) ae)) rfl) ae))) (af (i7 (pv 4) (ab (pv 7))) (aq (xV hr.units (pv 5) (aK gy (hr.mono (by decide)) rfl bL (aa (ab (pv 7)) ae) rfl) ⟨rfl,rfl,rfl,rfl⟩)))) a8))))) (aq (c_ (i:=4) (ay (ab (pv 4)))))))))
abbrev sv:Stmt:=top 26
def xD:List Str:=["board"]
def xJ:List Str:=["board"]
theorem BK:FnScope xD xJ (ag sv):=⟨rfl,rfl,rfl,by decide+kernel,rfl,by decide+kernel,by decide+kernel⟩
theorem A1(B:Bl K mg base cv cA Cp)(aM:ah P w K mg base cv 4 "need_board" 1 aE)(g9:ah P w K mg base cv 2 "all_cells" 1 dh)(T:bh K mg "cells" sv f):ah P w K mg base cv 5 "cells" 1 (gD):=
 aw (N:=xD) (ps:=xJ) T BK (fun _ _ _ _ _ _ us hl=>match us,hl with | [_],_=>rfl) fun bQ A outer s H E hr=>
  (af (bq (aK aM (hr.mono (by decide)) rfl aQ (aa (ab (pv 0)) ae) rfl)) (aq (ay (aK g9 (hr.mono (by decide)) rfl aQ (aa (ab (pv 0)) ae) rfl))))
abbrev iD:Stmt:=top 27
def lO:List Str:=["board","cell"]
def l6:List Str:=["board","cell"]
theorem sD:FnScope lO l6 (ag iD):=⟨rfl,rfl,rfl,by decide+kernel,rfl,by decide+kernel,by decide+kernel⟩
theorem rU(B:Bl K mg base cv cA Cp)(aM:ah P w K mg base cv 4 "need_board" 1 aE)(bO:ah P w K mg base cv 3 "need_cell" 2 bb)(df:ah P w K mg base cv 1 "letter_of" 2 aW)(T:bh K mg "letter_at" iD f):ah P w K mg base cv 5 "letter_at" 2 (bS):=
 aw (N:=lO) (ps:=l6) T sD (fun _ _ _ _ _ _ us hl=>match us,hl with | [_,_],_=>rfl) fun bQ A outer s H E hr=>
  (af (bq (aK aM (hr.mono (by decide)) rfl aQ (aa (ab (pv 0)) ae) rfl)) (af (bq (aK bO (hr.mono (by decide)) rfl aQ (aa (ab (pv 0)) (aa (ab (pv 1)) ae)) rfl)) (aq (ay (aK df (hr.mono (by decide)) rfl aQ (aa (ab (pv 0)) (aa (ab (pv 1)) ae)) rfl)))))
abbrev fQ:Stmt:=top 28
def jq:List Str:=["board","cell","letter"]
def jw:List Str:=["board","cell","letter"]
theorem oY:FnScope jq jw (ag fQ):=⟨rfl,rfl,rfl,by decide+kernel,rfl,by decide+kernel,by decide+kernel⟩
theorem oA(B:Bl K mg base cv cA Cp)(aM:ah P w K mg base cv 4 "need_board" 1 aE)(bO:ah P w K mg base cv 3 "need_cell" 2 bb)(fJ:ah P w K mg base cv 2 "need_letter" 1 cG)(eT:ah P w K mg base cv 2 "with_letters" 3 bH)(T:bh K mg "with_letter" fQ f):ah P w K mg base cv 5 "with_letter" 3 (cH):=
 aw (N:=jq) (ps:=jw) T oY (fun _ _ _ _ _ _ us hl=>match us,hl with | [_,_,_],_=>rfl) fun bQ A outer s H E hr=>
  (af (bq (aK aM (hr.mono (by decide)) rfl aQ (aa (ab (pv 0)) ae) rfl)) (af (bq (aK bO (hr.mono (by decide)) rfl aQ (aa (ab (pv 0)) (aa (ab (pv 1)) ae)) rfl)) (af (bq (aK fJ (hr.mono (by decide)) rfl aQ (aa (ab (pv 2)) ae) rfl)) (aq (ay (aK eT (hr.mono (by decide)) rfl aQ (aa (ab (pv 0)) (aa (ip (aa (ab (pv 1)) ae)) (aa (ab (pv 2)) ae))) rfl))))))
abbrev oU:Stmt:=top 29
def ue:List Str:=["board","cell","ways"]
def uE:List Str:=["board","cell","ways"]
theorem zo:FnScope ue uE (ag oU):=⟨rfl,rfl,rfl,by decide+kernel,rfl,by decide+kernel,by decide+kernel⟩
theorem y6(B:Bl K mg base cv cA Cp)(aM:ah P w K mg base cv 4 "need_board" 1 aE)(bO:ah P w K mg base cv 3 "need_cell" 2 bb)(bP:ah P w K mg base cv 2 "need_ways" 1 bc)(dq:ah P w K mg base cv 2 "next_cells" 3 a7)(T:bh K mg "beside" oU f):ah P w K mg base cv 5 "beside" 3 (fV):=
 aw (N:=ue) (ps:=uE) T zo (fun _ _ _ _ _ _ us hl=>match us,hl with | [_,_,_],_=>rfl) fun bQ A outer s H E hr=>
  (af (bq (aK aM (hr.mono (by decide)) rfl aQ (aa (ab (pv 0)) ae) rfl)) (af (bq (aK bO (hr.mono (by decide)) rfl aQ (aa (ab (pv 0)) (aa (ab (pv 1)) ae)) rfl)) (af (bq (aK bP (hr.mono (by decide)) rfl aQ (aa (ab (pv 2)) ae) rfl)) (aq (ay (aK dq (hr.mono (by decide)) rfl aQ (aa (ab (pv 0)) (aa (ab (pv 1)) (aa (ab (pv 2)) ae))) rfl))))))
abbrev fO:Stmt:=top 33
def jm:List Str:=["board","ways","found","seen","cell","patch"]
def ju:List Str:=["board","ways"]
theorem cT:FnScope jm ju (ag fO):=⟨rfl,rfl,rfl,by decide+kernel,rfl,by decide+kernel,by decide+kernel⟩
theorem oy(B:Bl K mg base cv cA Cp)(g9:ah P w K mg base cv 2 "all_cells" 1 dh)(gz:ah P w K mg base cv 4 "steps_back" 3 aR)(gy:ah P w K mg base cv 1 "keyed" 1 cU)(T:bh K mg "all_patches" fO f):ah P w K mg base cv 5 "all_patches" 2 (aV):=
 aw (N:=jm) (ps:=ju) T cT (fun _ _ _ _ _ _ us hl=>match us,hl with | [_,_],_=>rfl) fun bQ A outer s H E hr=>
  (af (fC cT.nd rfl (by first | exact .inl rfl | exact .inr rfl)) (af (kx cT.nd rfl (by first | exact .inl rfl | exact .inr rfl)) (af (da (cx PassesOwn.never rfl (bD (aK g9 (hr.mono (by decide)) rfl bL (aa (ab (pv 0)) ae) rfl)) (bE cT.nd rfl (by first | exact .inl rfl | exact .inr rfl)) bJ (bu (aq (bI (se (i9 hr.units (ab (pv 4)) (ab (pv 3)))) (af (aS cT.nd rfl (by first | exact .inl rfl | exact .inr rfl) (xR rfl rfl B.sorted rfl (aa (aK gz (hr.mono (by decide)) rfl bL (aa (ab (pv 0)) (aa (ab (pv 4)) (aa (ab (pv 1)) ae))) rfl) ae))) (af (i7 (pv 2) (ab (pv 5))) (aq (xV hr.units (pv 3) (aK gy (hr.mono (by decide)) rfl bL (aa (ab (pv 5)) ae) rfl) ⟨rfl,rfl,rfl,rfl⟩)))) a8))))) (aq (c_ (i:=2) (ay (ab (pv 2))))))))
abbrev jP:Stmt:=top 37
def om:List Str:=["board","cell","ways"]
def oI:List Str:=["board","cell","ways"]
theorem uW:FnScope om oI (ag jP):=⟨rfl,rfl,rfl,by decide+kernel,rfl,by decide+kernel,by decide+kernel⟩
theorem uA(B:Bl K mg base cv cA Cp)(aM:ah P w K mg base cv 4 "need_board" 1 aE)(bO:ah P w K mg base cv 3 "need_cell" 2 bb)(bP:ah P w K mg base cv 2 "need_ways" 1 bc)(gz:ah P w K mg base cv 4 "steps_back" 3 aR)(T:bh K mg "patch_of" jP f):ah P w K mg base cv 5 "patch_of" 3 (dP):=
 aw (N:=om) (ps:=oI) T uW (fun _ _ _ _ _ _ us hl=>match us,hl with | [_,_,_],_=>rfl) fun bQ A outer s H E hr=>
  (af (bq (aK aM (hr.mono (by decide)) rfl aQ (aa (ab (pv 0)) ae) rfl)) (af (bq (aK bO (hr.mono (by decide)) rfl aQ (aa (ab (pv 0)) (aa (ab (pv 1)) ae)) rfl)) (af (bq (aK bP (hr.mono (by decide)) rfl aQ (aa (ab (pv 2)) ae) rfl)) (aq (ay (xR rfl rfl B.sorted rfl (aa (aK gz (hr.mono (by decide)) rfl aQ (aa (ab (pv 0)) (aa (ab (pv 1)) (aa (ab (pv 2)) ae))) rfl) ae)))))))
abbrev gQ:Stmt:=top 40
def kc:List Str:=["board","cell","ways","letter"]
def kq:List Str:=["board","cell","ways","letter"]
theorem pL:FnScope kc kq (ag gQ):=⟨rfl,rfl,rfl,by decide+kernel,rfl,by decide+kernel,by decide+kernel⟩
theorem pG(B:Bl K mg base cv cA Cp)(aM:ah P w K mg base cv 4 "need_board" 1 aE)(bO:ah P w K mg base cv 3 "need_cell" 2 bb)(bP:ah P w K mg base cv 2 "need_ways" 1 bc)(fJ:ah P w K mg base cv 2 "need_letter" 1 cG)(T:bh K mg "need_paint" gQ f):ah P w K mg base cv 5 "need_paint" 4 (eE):=
 aw (N:=kc) (ps:=kq) T pL (fun _ _ _ _ _ _ us hl=>match us,hl with | [_,_,_,_],_=>rfl) fun bQ A outer s H E hr=>
  (af (bq (aK aM (hr.mono (by decide)) rfl aQ (aa (ab (pv 0)) ae) rfl)) (af (bq (aK bO (hr.mono (by decide)) rfl aQ (aa (ab (pv 0)) (aa (ab (pv 1)) ae)) rfl)) (af (bq (aK bP (hr.mono (by decide)) rfl aQ (aa (ab (pv 2)) ae) rfl)) (aq (bq (aK fJ (hr.mono (by decide)) rfl aQ (aa (ab (pv 3)) ae) rfl))))))
abbrev cW:Stmt:=top 41
def cV:List Str:=["board","ways","patch","cell","rest"]
def gb:List Str:=["board","ways","patch","cell"]
theorem fI:FnScope cV gb (ag cW):=⟨rfl,rfl,rfl,by decide+kernel,rfl,by decide+kernel,by decide+kernel⟩
theorem kh(B:Bl K mg base cv cA Cp)(vF:ah P w K mg base cv 4 "parts_of" 3 gF)(T:bh K mg "holds_together" cW f):ah P w K mg base cv 5 "holds_together" 4 (aZ):=
 aw (N:=cV) (ps:=gb) T fI (fun _ _ _ _ _ _ us hl=>match us,hl with | [_,_,_,_],_=>rfl) fun bQ A outer s H E hr=>
  (af (iu (tn:=["member"]) (n:=0) fI.nd rfl (by first | exact .inl rfl | exact .inr rfl) (b7 (N:=cV) (osc:=(ag cW)) rfl rfl (by decide+kernel)) rfl rfl (bD (ab (pv 2))) (fun _ _ _ _ _ _ _=>dI (show List.Nodup (((["member"]:List Str))++di ["member"] cV) by decide+kernel) rfl rfl) (fun _ _ _ _ _ _=>(iO (kz hr.units (ab (pv 0)) (ab (pv 4))))) (fun _ _ _ _ _ _=>(ab (pv 0)))) (aq (ay (Ez (bA rfl B.len (aa (aK vF (hr.mono (by decide)) rfl aQ (aa (ab (pv 0)) (aa (ab (pv 4)) (aa (ab (pv 1)) ae))) rfl) ae)) ar))))
abbrev jL:Stmt:=top 38
def oa:List Str:=["board","ways"]
def oD:List Str:=["board","ways"]
theorem uS:FnScope oa oD (ag jL):=⟨rfl,rfl,rfl,by decide+kernel,rfl,by decide+kernel,by decide+kernel⟩
theorem uv(B:Bl K mg base cv cA Cp)(aM:ah P w K mg base cv 4 "need_board" 1 aE)(bP:ah P w K mg base cv 2 "need_ways" 1 bc)(cF:ah P w K mg base cv 5 "all_patches" 2 aV)(T:bh K mg "how_many" jL f):ah P w K mg base cv 6 "how_many" 2 (cQ):=
 aw (N:=oa) (ps:=oD) T uS (fun _ _ _ _ _ _ us hl=>match us,hl with | [_,_],_=>rfl) fun bQ A outer s H E hr=>
  (af (bq (aK aM (hr.mono (by decide)) rfl aQ (aa (ab (pv 0)) ae) rfl)) (af (bq (aK bP (hr.mono (by decide)) rfl aQ (aa (ab (pv 1)) ae) rfl)) (aq (ay (bA rfl B.len (aa (aK cF (hr.mono (by decide)) rfl aQ (aa (ab (pv 0)) (aa (ab (pv 1)) ae)) rfl) ae))))))
abbrev oV:Stmt:=top 42
def uf:List Str:=["board","cell","ways","letter","then"]
def uF:List Str:=["board","cell","ways","letter"]
theorem qL:FnScope uf uF (ag oV):=⟨rfl,rfl,rfl,by decide+kernel,rfl,by decide+kernel,by decide+kernel⟩
theorem y7(B:Bl K mg base cv cA Cp)(q9:ah P w K mg base cv 5 "need_paint" 4 eE)(eT:ah P w K mg base cv 2 "with_letters" 3 bH)(cF:ah P w K mg base cv 5 "all_patches" 2 aV)(T:bh K mg "change" oV f):ah P w K mg base cv 6 "change" 4 (cz):=
 aw (N:=uf) (ps:=uF) T qL (fun _ _ _ _ _ _ us hl=>match us,hl with | [_,_,_,_],_=>rfl) fun bQ A outer s H E hr=>
  (af (bq (aK q9 (hr.mono (by decide)) rfl aQ (aa (ab (pv 0)) (aa (ab (pv 1)) (aa (ab (pv 2)) (aa (ab (pv 3)) ae)))) rfl)) (af (aS qL.nd rfl (by first | exact .inl rfl | exact .inr rfl) (aK eT (hr.mono (by decide)) rfl aQ (aa (ab (pv 0)) (aa (ip (aa (ab (pv 1)) ae)) (aa (ab (pv 3)) ae))) rfl)) (aq (ay (jJ (bA rfl B.len (aa (aK cF (hr.mono (by decide)) rfl aQ (aa (ab (pv 4)) (aa (ab (pv 2)) ae)) rfl) ae)) (bA rfl B.len (aa (aK cF (hr.mono (by decide)) rfl aQ (aa (ab (pv 0)) (aa (ab (pv 2)) ae)) rfl) ae)))))))
abbrev sx:Stmt:=top 43
def rL:List Str:=["board","ways","told","patch"]
def A9:List Str:=["board","ways"]
theorem sA:FnScope rL A9 (ag sx):=⟨rfl,rfl,rfl,by decide+kernel,rfl,by decide+kernel,by decide+kernel⟩
theorem Dd(B:Bl K mg base cv cA Cp)(aM:ah P w K mg base cv 4 "need_board" 1 aE)(bP:ah P w K mg base cv 2 "need_ways" 1 bc)(cF:ah P w K mg base cv 5 "all_patches" 2 aV)(kP:ah P w K mg base cv 5 "holds_together" 4 aZ)(T:bh K mg "cuts" sx f):ah P w K mg base cv 6 "cuts" 2 (nA):=
 aw (N:=rL) (ps:=A9) T sA (fun _ _ _ _ _ _ us hl=>match us,hl with | [_,_],_=>rfl) fun bQ A outer s H E hr=>
  (af (bq (aK aM (hr.mono (by decide)) rfl aQ (aa (ab (pv 0)) ae) rfl)) (af (bq (aK bP (hr.mono (by decide)) rfl aQ (aa (ab (pv 1)) ae) rfl)) (af (fC sA.nd rfl (by first | exact .inl rfl | exact .inr rfl)) (af (da (cx PassesOwn.never rfl (bD (aK cF (hr.mono (by decide)) rfl bL (aa (ab (pv 0)) (aa (ab (pv 1)) ae)) rfl)) (bE sA.nd rfl (by first | exact .inl rfl | exact .inr rfl)) bJ (bu (aq (xU (pv 2) (fB (tn:=["cell"]) (n:=0) (b7 (N:=rL) (osc:=(ag sx)) rfl rfl (by decide+kernel)) rfl rfl (bD (ab (pv 3))) (fun _ _ _ _ _ _ _=>dI (show List.Nodup (((["cell"]:List Str))++di ["cell"] rL) by decide+kernel) rfl rfl) (fun _ _ _ _ _ _=>(iO (cM (aK kP (hr.mono (by decide)) rfl bL (aa (ab (pv 1)) (aa (ab (pv 2)) (aa (ab (pv 4)) (aa (ab (pv 0)) ae)))) rfl)))) (fun _ _ _ _ _ _=>(ab (pv 0))))))))) (aq (c_ (i:=2) (ay (F9 rfl B.sorted rfl (aa (ab (pv 2)) ae)))))))))
abbrev az:Stmt:=top 48
def cb:List Str:=["_law_script","_law_board_here","_law_ways","_law_some","_law_cell_here","_law_patch","_law_alone","_law_nigh","_law_letter","_law_new","_law_more"]
def k9:List Str:=["_law_script"]
theorem bK:FnScope cb k9 (ag az):=⟨rfl,rfl,rfl,by decide+kernel,rfl,by decide+kernel,by decide+kernel⟩
set_option maxHeartbeats 4000000 in
theorem sI(B:Bl K mg base cv cA Cp)(hJ:ah P w K mg base cv 3 "_law_board" 3 d7){bQ:Value}{A:Around}{outer:List Env}{s:Shared}{H:Hp}{E:XK}(hr:Room 6 (A.deeper (envOfC "law" (ag az) s.heap.objs.size f bQ))):
 Box (jR (fk (ph P w cv) P w K mg base cb "law" (ag az) f bQ A outer s H E) (fun n H'=>E (cv n) none H') ((bx az).getD 0 (.Pass ⟨0,0,0,0⟩)) me):=
 ⟨(aS bK.nd rfl (by first | exact .inl rfl | exact .inr rfl) (aK hJ (hr.mono (by decide)) rfl aQ (aa (ab (pv 0)) (aa ar (aa ar ae))) rfl))⟩
set_option maxHeartbeats 4000000 in
theorem sJ(B:Bl K mg base cv cA Cp)(br:ah P w K mg base cv 2 "_law_drawn" 3 aI){bQ:Value}{A:Around}{outer:List Env}{s:Shared}{H:Hp}{E:XK}(hr:Room 6 (A.deeper (envOfC "law" (ag az) s.heap.objs.size f bQ))):
 Box (jR (fk (ph P w cv) P w K mg base cb "law" (ag az) f bQ A outer s H E) (fun n H'=>E (cv n) none H') ((bx az).getD 1 (.Pass ⟨0,0,0,0⟩)) mf):=
 ⟨(aS bK.nd rfl (by first | exact .inl rfl | exact .inr rfl) (Bd (ip (aa ar (aa ar ae))) (aK br (hr.mono (by decide)) rfl aQ (aa (ab (pv 0)) (aa ar (aa ar ae))) rfl)))⟩
set_option maxHeartbeats 4000000 in
theorem sL(B:Bl K mg base cv cA Cp)(vC:ah P w K mg base cv 6 "cuts" 2 nA){bQ:Value}{A:Around}{outer:List Env}{s:Shared}{H:Hp}{E:XK}(hr:Room 6 (A.deeper (envOfC "law" (ag az) s.heap.objs.size f bQ))):
 Box (jR (fk (ph P w cv) P w K mg base cb "law" (ag az) f bQ A outer s H E) (fun n H'=>E (cv n) none H') ((bx az).getD 2 (.Pass ⟨0,0,0,0⟩)) mh):=
 ⟨(aS bK.nd rfl (by first | exact .inl rfl | exact .inr rfl) (aK vC (hr.mono (by decide)) rfl aQ (aa (ab (pv 1)) (aa (ab (pv 2)) ae)) rfl))⟩
set_option maxHeartbeats 4000000 in
theorem sM(B:Bl K mg base cv cA Cp){bQ:Value}{A:Around}{outer:List Env}{s:Shared}{H:Hp}{E:XK}(hr:Room 6 (A.deeper (envOfC "law" (ag az) s.heap.objs.size f bQ))):
 Box (jR (fk (ph P w cv) P w K mg base cb "law" (ag az) f bQ A outer s H E) (fun n H'=>E (cv n) none H') ((bx az).getD 3 (.Pass ⟨0,0,0,0⟩)) mi):=
 ⟨(bI (kz hr.units (ab (pv 3)) (zf rfl hr.units rfl B.sorted rfl B.set rfl rfl (ab (pv 3)))) (aq (ay gc)) a8)⟩
set_option maxHeartbeats 4000000 in
theorem sN(B:Bl K mg base cv cA Cp)(iS:ah P w K mg base cv 5 "cells" 1 gD)(br:ah P w K mg base cv 2 "_law_drawn" 3 aI)(jB:ah P w K mg base cv 5 "patch_of" 3 dP)(fS:ah P w K mg base cv 6 "change" 4 cz)(fK:ah P w K mg base cv 5 "with_letter" 3 cH)(mZ:ah P w K mg base cv 5 "beside" 3 fV)(gw:ah P w K mg base cv 6 "how_many" 2 cQ)(fq:ah P w K mg base cv 5 "letter_at" 2 bS){bQ:Value}{A:Around}{outer:List Env}{s:Shared}{H:Hp}{E:XK}(hr:Room 6 (A.deeper (envOfC "law" (ag az) s.heap.objs.size f bQ))):
 Box (jR (fk (ph P w cv) P w K mg base cb "law" (ag az) f bQ A outer s H E) (fun n H'=>E (cv n) none H') ((bx az).getD 4 (.Pass ⟨0,0,0,0⟩)) mj):=
 ⟨(da (cx PassesOwn.never rfl (bD (aK iS (hr.mono (by decide)) rfl bL (aa (ab (pv 1)) ae) rfl)) (bE bK.nd rfl (by first | exact .inl rfl | exact .inr rfl)) bJ (bu (af (aS bK.nd rfl (by first | exact .inl rfl | exact .inr rfl) (aK jB (hr.mono (by decide)) rfl bL (aa (ab (pv 1)) (aa (ab (pv 4)) (aa (ab (pv 2)) ae))) rfl)) (af (aS bK.nd rfl (by first | exact .inl rfl | exact .inr rfl) (aK fS (hr.mono (by decide)) rfl bL (aa (ab (pv 1)) (aa (ab (pv 4)) (aa (ab (pv 2)) (aa ir ae)))) rfl)) (af (bI (PDW.t (lg (kz hr.units (F0 hr.units (ab (pv 4)) (ab (pv 3))) (Ez (ab (pv 6)) ar)) (i6 (PDW.t (mM (xW hr.units (bA rfl B.len (aa (ab (pv 5)) ae)) ar) (oN (kz hr.units (ab (pv 6)) ar))))))) (aq (ay gc)) a8) (af (bI (PDW.t (mM (IE (bA rfl B.len (aa (ab (pv 5)) ae)) ar) (mM (zl hr.units (ab (pv 4)) (ab (pv 3))) (oN (kz hr.units (ab (pv 6)) ar))))) (aq (ay gc)) a8) (af (iu (tn:=["_law_there"]) (n:=0) bK.nd rfl (by first | exact .inl rfl | exact .inr rfl) (b7 (N:=cb) (osc:=(ag az)) rfl rfl (by decide+kernel)) rfl rfl (bD (aK mZ (hr.mono (by decide)) rfl bL (aa (ab (pv 1)) (aa (ab (pv 4)) (aa (ab (pv 2)) ae))) rfl)) (fun _ _ _ _ _ _ _=>dI (show List.Nodup (((["_law_there"]:List Str))++di ["_law_there"] cb) by decide+kernel) rfl rfl) (fun _ _ _ _ _ _=>(iO (Bv hr.units (ab (pv 0)) (ab (pv 6))))) (fun _ _ _ _ _ _=>(ab (pv 0)))) (af (bI (PDW.t (mM (IF (bA rfl B.len (aa (ab (pv 7)) ae)) ar) (oN (Bv hr.units (ab (pv 4)) (ab (pv 3)))))) (aq (ay gc)) a8) (af (aS bK.nd rfl (by first | exact .inl rfl | exact .inr rfl) (wq ir (aK br (hr.mono (by decide)) rfl bL (aa (ab (pv 0)) (aa (cJ (cJ ar (b0 (ab (pv 4)) ar)) (iq ar (b0 (ab (pv 4)) ar))) (aa ar ae))) rfl))) (af (aS bK.nd rfl (by first | exact .inl rfl | exact .inr rfl) (aK fK (hr.mono (by decide)) rfl bL (aa (ab (pv 1)) (aa (ab (pv 4)) (aa (ab (pv 8)) ae))) rfl)) (af (aS bK.nd rfl (by first | exact .inl rfl | exact .inr rfl) (aK fS (hr.mono (by decide)) rfl bL (aa (ab (pv 1)) (aa (ab (pv 4)) (aa (ab (pv 2)) (aa (ab (pv 8)) ae)))) rfl)) (af (bI (kz hr.units (jJ (aK gw (hr.mono (by decide)) rfl bL (aa (ab (pv 9)) (aa (ab (pv 2)) ae)) rfl) (aK gw (hr.mono (by decide)) rfl bL (aa (ab (pv 1)) (aa (ab (pv 2)) ae)) rfl)) (ab (pv 10))) (aq (ay gc)) a8) (af (bI (kz hr.units (aK fS (hr.mono (by decide)) rfl bL (aa (ab (pv 9)) (aa (ab (pv 4)) (aa (ab (pv 2)) (aa (aK fq (hr.mono (by decide)) rfl bL (aa (ab (pv 1)) (aa (ab (pv 4)) ae)) rfl) ae)))) rfl) (jJ ar (ab (pv 10)))) (aq (ay gc)) a8) (aq (bI (kz hr.units (aK fS (hr.mono (by decide)) rfl bL (aa (ab (pv 1)) (aa (ab (pv 4)) (aa (ab (pv 2)) (aa (aK fq (hr.mono (by decide)) rfl bL (aa (ab (pv 1)) (aa (ab (pv 4)) ae)) rfl) ae)))) rfl) ar) (aq (ay gc)) a8))))))))))))))))⟩
set_option maxHeartbeats 4000000 in
theorem sO(B:Bl K mg base cv cA Cp)(iS:ah P w K mg base cv 5 "cells" 1 gD){bQ:Value}{A:Around}{outer:List Env}{s:Shared}{H:Hp}{E:XK}(hr:Room 6 (A.deeper (envOfC "law" (ag az) s.heap.objs.size f bQ))):
 Box (jR (fk (ph P w cv) P w K mg base cb "law" (ag az) f bQ A outer s H E) (fun n H'=>E (cv n) none H') ((bx az).getD 5 (.Pass ⟨0,0,0,0⟩)) ml):=
 ⟨(ay (Iw (Iv (bA rfl B.len (aa (ab (pv 3)) ae)) (bA rfl B.len (aa (aK iS (hr.mono (by decide)) rfl aQ (aa (ab (pv 1)) ae) rfl) ae))) (sd (uH hr.units (ab (pv 3)) (ip ae)))))⟩
set_option maxHeartbeats 4000000 in
theorem ur{fd:FuncData}(B:Bl K mg base cv cA Cp)(hJ:ah P w K mg base cv 3 "_law_board" 3 d7)(vC:ah P w K mg base cv 6 "cuts" 2 nA)(iS:ah P w K mg base cv 5 "cells" 1 gD)(br:ah P w K mg base cv 2 "_law_drawn" 3 aI)(jB:ah P w K mg base cv 5 "patch_of" 3 dP)(fS:ah P w K mg base cv 6 "change" 4 cz)(fK:ah P w K mg base cv 5 "with_letter" 3 cH)(mZ:ah P w K mg base cv 5 "beside" 3 fV)(gw:ah P w K mg base cv 6 "how_many" 2 cQ)(fq:ah P w K mg base cv 5 "letter_at" 2 bS)(Fn:Fun K "law" "law" az f fd):FnOk P w K mg base (ph P w cv) 7 f fd k9 (GZ K cv 1 iU):=
 Hq (N:=cb) (ps:=k9) (τ:=lF) Fn bK fun bQ A outer s H E hr=>by
  obtain⟨Om⟩:Box (PSDs (fk (ph P w cv) P w K mg base cb "law" (ag az) f bQ A outer s H E) (fun n H'=>E (cv n) none H') (bx az) lF):=(mY (sI B hJ hr) (mY (sJ B br hr) (mY (sL B vC hr) (mY (sM B hr) (mY (sN B iS br jB fS fK mZ gw fq hr) (EL (sO B iS hr)))))))
  assumption
end
end K1
namespace K1
open PySem L2 L3
theorem AL{ds:List D}(h:ds.length≤lim):e_ ds=M.ret (.lst ds):=if_pos h
theorem c5:lim=4096:=rfl
theorem g8{α:Type}{xs:List α}{i:Nat}{x:α}(h:xs[i]? =some x):L2.atI xs (i:Int)=some x:=by
 obtain⟨hi,e⟩:=List.getElem?_eq_some_iff.mp h
 unfold L2.atI Fv
 rw[if_pos (Int.natCast_nonneg i),if_pos (by exact Int.ofNat_lt.mpr hi)]
 exact h
theorem aj{m:Nat}{g:List D→M D}{δs:DA}{ρ:aY}{ds:List D}(h:δs ρ=M.ret ds)(hl:ds.length=m):ak m g δs ρ=g ds:=by
 unfold ak
 rw[h]
 exact if_pos hl
theorem aU{a:DE}{r:DA}{ρ:aY}{x:D}{xs:List D}(h1:a ρ=M.ret x)(h2:r ρ=M.ret xs):aC a r ρ=M.ret (x::xs):=by
 unfold aC
 rw[h1,ao,h2]
 rfl
theorem aP{g:D→D→M D}{a b:DE}{ρ:aY}{x y:D}(h1:a ρ=M.ret x)(h2:b ρ=M.ret y):d2 g a b ρ=g x y:=by
 unfold d2
 rw[h1,ao,h2]
 rfl
theorem b8{g:List D→M D}{a:DA}{ρ:aY}{xs:List D}(h:a ρ=M.ret xs):dA g a ρ=g xs:=by
 unfold dA
 rw[h]
 rfl
theorem fZ{i j:Int}(h:0<j):jY (.int i) (.int j)=M.ret (.int (i % j)):=by
 show (if decide (0<j)=true then _ else _)=_
 rw[if_pos (decide_eq_true h)]
theorem jW{i j:Int}(h:0<j)(h2:j<1073741824):pA (.int i) (.int j)=M.ret (.int (i / j)):=by
 show (if decide (0<j∧j<1073741824)=true then _ else _)=_
 rw[if_pos (decide_eq_true ⟨h,h2⟩)]
theorem eY{i j:Int}(h:(-(2 ^ 64)<i∧i<2 ^ 64)∨(-(2 ^ 64)<j∧j<2 ^ 64)):f6 (.int i) (.int j)=M.ret (.int (i*j)):=by
 show (if decide _=true then _ else _)=_
 rw[if_pos (decide_eq_true h)]
theorem fY{i j:Int}:c0 (.int i) (.int j)=M.ret (.int (i+j)):=rfl
theorem zW(ns:List Int)(hl:ns.length≤63)(k:Nat):∃v,eX [.scr ns, .int (k:Int)]=M.ret (.int v):=by
 cases ns with
 |nil=>
  refine⟨7*(k:Int),?_⟩
  rfl
 |cons n r=>
  have hp:0<(n::r).length:=Nat.succ_pos _
  generalize e:(n::r)=ns at*
  have he:kM 6 (.scr ns) (.lst [])=some false:=by subst e;rfl
  obtain⟨y,hy⟩:∃y,ns[k % ns.length]? =some y:=⟨_,List.getElem?_eq_getElem (Nat.mod_lt _ hp)⟩
  have LX:(0:Int)<(ns.length:Int):=by omega
  have h1:jY (.int (k:Int)) (.int (ns.length:Int))=M.ret (.int ((k % ns.length:Nat):Int)):=fZ LX
  have h2:pA (.int (k:Int)) (.int (ns.length:Int))=M.ret (.int ((k:Int) / (ns.length:Int))):=jW LX (by omega)
  have h3:Ai (.scr ns) (.int ((k % ns.length:Nat):Int))=M.ret (.int y):=by
   show (match L2.atI ns ((k % ns.length:Nat):Int) with | some n=>M.ret (D.int n) | none=>M.stuck)=_
   rw[g8 hy]
  have h4:f6 (.int 6553) (.int ((k:Int) / (ns.length:Int)))=M.ret (.int (6553*((k:Int) / (ns.length:Int)))):=eY (.inl ⟨by decide,by decide⟩)
  refine⟨y+6553*((k:Int) / (ns.length:Int)),?_⟩
  simp only[eX,pe,bU,av,fN,a9,cC,cf,d2,dV,dC,dA,aC,aN,e_,ba,yo,nH,he,ao,h1,h2,h3,h4,List.map_cons,List.map_nil,List.cons_append,List.nil_append,List.length_cons,List.length_nil,List.getElem?_cons_zero,List.getElem?_cons_succ,c5,Nat.reduceAdd,Nat.zero_le,if_true,Bool.false_eq_true,if_false,c0,gI]
theorem eN(ns:List Int)(hl:ns.length≤63)(k m:Nat)(hm:0<m):∃v:Nat,v<m∧aI [.scr ns, .int (k:Int), .int (m:Int)]=M.ret (.int (v:Int)):=by
 obtain⟨c,hc⟩:=zW ns hl k
 have b1:=Int.emod_nonneg (c % 2147483563*69069+104723*((k:Int)+1)) (b:=2147483563) (by decide)
 have b2:=Int.emod_lt_of_pos (c % 2147483563*69069+104723*((k:Int)+1)) (b:=2147483563) (by decide)
 generalize hx:(c % 2147483563*69069+104723*((k:Int)+1)) % 2147483563=x at b1 b2
 have b3:=Int.emod_nonneg (x*x+x / 3) (b:=2147483399) (by decide)
 have b4:=Int.emod_lt_of_pos (x*x+x / 3) (b:=2147483399) (by decide)
 generalize hy:(x*x+x / 3) % 2147483399=y at b3 b4
 have m1:f6 (.int (c % 2147483563)) (.int 69069)=_:=eY (.inr ⟨by decide,by decide⟩)
 have m2:f6 (.int 104723) (.int ((k:Int)+1))=_:=eY (.inl ⟨by decide,by decide⟩)
 have m3:f6 (.int x) (.int x)=_:=eY (.inl ⟨by omega,by omega⟩)
 have m4:f6 (.int y) (.int y)=_:=eY (.inl ⟨by omega,by omega⟩)
 have hM:(0:Int)<(m:Int):=Int.ofNat_lt.mpr hm
 have n1:=Int.emod_nonneg ((y*y+y / 7) % 2147483647 / 11) (b:=(m:Int)) (by omega)
 have n2:=Int.emod_lt_of_pos ((y*y+y / 7) % 2147483647 / 11) hM
 have q1:jY (.int c) (.int 2147483563)=_:=fZ (by decide)
 have q2:jY (.int (c % 2147483563*69069+104723*((k:Int)+1))) (.int 2147483563)=_:=fZ (by decide)
 have q3:pA (.int x) (.int 3)=_:=jW (by decide) (by decide)
 have q4:jY (.int (x*x+x / 3)) (.int 2147483399)=_:=fZ (by decide)
 have q5:pA (.int y) (.int 7)=_:=jW (by decide) (by decide)
 have q6:jY (.int (y*y+y / 7)) (.int 2147483647)=_:=fZ (by decide)
 have q7:pA (.int ((y*y+y / 7) % 2147483647)) (.int 11)=_:=jW (by decide) (by decide)
 have q8:jY (.int ((y*y+y / 7) % 2147483647 / 11)) (.int (m:Int))=_:=fZ hM
 refine⟨((y*y+y / 7) % 2147483647 / 11 % (m:Int)).toNat,by omega,?_⟩
 rw[Int.toNat_of_nonneg n1]
 rw[hx] at q2
 rw[hy] at q4
 simp only[aI,md,bU,av,bB,a9,ak,d2,dV,dC,dA,aC,aN,ao,hc,List.map_cons,List.map_nil,List.cons_append,List.nil_append,List.length_cons,List.length_nil,List.getElem?_cons_zero,List.getElem?_cons_succ,List.replicate,List.set_cons_zero,List.set_cons_succ,Nat.reduceAdd,Nat.reduceSub,if_true,fY,m1,m2,m3,m4,q1,q2,q3,q4,q5,q6,q7,q8]
theorem AV{α:Type}(a:α):noex (M.ret a)=M.ret a:=rfl
theorem tN{put:D→aY→Option aY}{body:DS}{I:Nat→aY→Prop}:∀(ds:List D) (i:Nat) (ρ:aY),I i ρ→
 (∀j d,ds[j]? =some d→∀ρ,I (i+j) ρ→∃ρ1 ρ2,put d ρ=some ρ1∧body ρ1=M.ret (.nx ρ2)∧I (i+j+1) ρ2)→∃ρ',forL put body ds ρ=M.ret (.nx ρ')∧I (i+ds.length) ρ'
 |[],i,ρ,h,_=>⟨ρ,rfl,h⟩
 |d::ds,i,ρ,h,step=>by
  obtain⟨ρ1,ρ2,e1,e2,h2⟩:=step 0 d rfl ρ h
  obtain⟨ρ',e3,h3⟩:=tN (I:=I) ds (i+1) ρ2 h2 fun j d' hd ρ hI=>by
   have:=step (j+1) d' hd ρ (by rw[show i+(j+1)=i+1+j by omega];exact hI)
   rw[show i+(j+1)+1=i+1+j+1 by omega] at this
   exact this
  refine⟨ρ',?_,?_⟩
  ·show (match put d ρ with | none=>M.stuck | some ρ1=>body ρ1>>=fun o=>match o with | .nx ρ2=>forL put body ds ρ2 | .rt v=>M.ret (.rt v))=_
   rw[e1]
   show (body ρ1>>=fun o=>match o with | .nx ρ2=>forL put body ds ρ2 | .rt v=>M.ret (.rt v))=_
   rw[e2]
   exact e3
  ·rw[show i+(d::ds).length=i+1+ds.length by simp;omega]
   exact h3
theorem pZ{f:D→M (Option D)}{Pr:D→Prop}:∀(ds:List D),(∀d∈ds,∃y,f d=M.ret (some y)∧Pr y)→∃ys,dg f ds=M.ret ys∧ys.length=ds.length∧∀y∈ys,Pr y
 |[],_=>⟨[],rfl,rfl,fun _ h=>by cases h⟩
 |d::ds,h=>by
  obtain⟨y,e,hy⟩:=h d (List.mem_cons_self ..)
  obtain⟨ys,e2,hl,hp⟩:=pZ ds fun d' hd=>h d' (List.mem_cons_of_mem _ hd)
  refine⟨y::ys,?_,by simp[hl],fun z hz=>?_⟩
  ·rw[eU,e,ao,e2]
   rfl
  ·cases hz with
   |head=>exact hy
   |tail _ hz=>exact hp z hz
theorem fU{f:D→M (Option D)}{g:D→D}:∀(ds:List D),(∀d∈ds,f d=M.ret (some (g d)))→dg f ds=M.ret (ds.map g)
 |[],_=>rfl
 |d::ds,h=>by
  rw[eU,h d (List.mem_cons_self ..),ao,fU ds fun d' hd=>h d' (List.mem_cons_of_mem _ hd)]
  rfl
def Ck(x:Str):Bool:=!(Builtin.Str.occurrences ("abcdef":Str) x 0 ("abcdef":Str).length 1).isEmpty
structure Row (W:Nat) (r:Str):Prop where
 len:r.length=W
 let':∀c∈r.cps.toList,Ck ⟨#[c]⟩=true
structure Good (bd:List Str) (W:Nat):Prop where
 r1:1≤bd.length
 r5:bd.length≤5
 w1:1≤W
 w5:W≤5
 rows:∀r∈bd,Row W r
abbrev lE(c:Nat):Prop:=Ck ⟨#[c]⟩=true∧c≠101
def G7(r:Str):Prop:=∀c∈r.cps.toList,c≠101
theorem u9:∀(ys:List D),(∀y∈ys,∃c,y= .str ⟨#[c]⟩∧lE c)→∃xs,mC ys=some xs∧xs.length=ys.length∧(xs.map (·.length)).sum=ys.length∧Row ys.length (dr xs)∧G7 (dr xs)
 |[],_=>⟨[],rfl,rfl,rfl,⟨rfl,fun c h=>by cases h⟩,fun c h=>by cases h⟩
 |y::ys,h=>by
  obtain⟨c,e,hc⟩:=h y (List.mem_cons_self ..)
  obtain⟨xs,e1,e2,e3,e4,e5⟩:=u9 ys fun z hz=>h z (List.mem_cons_of_mem _ hz)
  subst e
  have Ao:∀z,z∈((⟨#[c]⟩:Str)++dr xs).cps.toList→z=c∨z∈(dr xs).cps.toList:=fun z hz=>by
   have:((⟨#[c]⟩:Str)++dr xs).cps= #[c]++(dr xs).cps:=rfl
   rw[this] at hz
   simpa using hz
  refine⟨⟨#[c]⟩::xs,?_,by simp[e2],?_,⟨?_,fun z hz=>?_⟩,fun z hz=>?_⟩
  ·show (mC ys).map _=_
   rw[e1]
   rfl
  ·rw[List.map_cons,List.sum_cons,e3]
   show 1+ys.length=_
   simp
   omega
  ·show ((⟨#[c]⟩:Str)++dr xs).length=_
   rw[iM,e4.len]
   show 1+ys.length=_
   simp
   omega
  ·rcases Ao z hz with rfl | q
   ·exact hc.1
   ·exact e4.let' z q
  ·rcases Ao z hz with rfl | q
   ·exact hc.2
   ·exact e5 z q
theorem BI{lo:Int}{n:Nat}{d:D}(h:d∈gk lo n):∃i:Nat,i<n∧d= .int (lo+(i:Int)):=by
 unfold gk at h
 obtain⟨i,hi,e⟩:=List.mem_map.mp h
 exact⟨i,List.mem_range.mp hi,e.symm⟩
theorem DN{lo:Int}{n j:Nat}{d:D}(h:(gk lo n)[j]? =some d):j<n∧d= .int (lo+(j:Int)):=by
 unfold gk at h
 rw[List.getElem?_map] at h
 by_cases hj:j<n
 ·rw[List.getElem?_range hj] at h
  cases h
  exact⟨hj,rfl⟩
 ·rw[List.getElem?_eq_none (by simpa using hj)] at h
  cases h
theorem iy(lo:Int)(n:Nat):(gk lo n).length=n:=by simp[gk]
abbrev fz(d:D):Option Sl:=some (.fz d)
theorem m8{δe:DE}{ρ:aY}{d:D}:g0 0 du δe ρ d=(δe (fz d::ρ)>>=fun y=>M.ret (some y)):=rfl
theorem m9{δt:DT}{δe:DE}{ρ:aY}{d:D}:g0 0 δt δe ρ d=(δt (fz d::ρ)>>=fun b=>if b then δe (fz d::ρ)>>=fun y=>M.ret (some y) else M.ret none):=rfl
theorem ai{a b:DS}{ρ ρ':aY}{o:M Out}(h:a ρ=M.ret (.nx ρ'))(h2:b ρ'=o):av a b ρ=o:=by
 unfold av
 rw[h]
 exact h2
theorem dF{a b:DS}{ρ:aY}{d:D}(h:a ρ=M.ret (.rt d)):av a b ρ=M.ret (.rt d):=by
 unfold av
 rw[h]
 rfl
theorem aL{i:Nat}{δ:DE}{ρ:aY}{d:D}(h:δ ρ=M.ret d):bB i δ ρ=M.ret (.nx (ρ.set i (fz d))):=by
 unfold bB
 rw[h]
 rfl
theorem eC{c:DT}{a b:DS}{ρ:aY}{o:M Out}(h:c ρ=M.ret true)(h2:a ρ=o):fN c a b ρ=o:=by
 unfold fN
 rw[h]
 exact h2
theorem c8{c:DT}{a b:DS}{ρ:aY}{o:M Out}(h:c ρ=M.ret false)(h2:b ρ=o):fN c a b ρ=o:=by
 unfold fN
 rw[h]
 exact h2
theorem aB{δ:DE}{ρ:aY}{d:D}(h:δ ρ=M.ret d):a9 δ ρ=M.ret (.rt d):=by
 unfold a9
 rw[h]
 rfl
theorem aX{δ:DE}{ρ:aY}{d:D}(h:δ ρ=M.ret d):ez δ ρ=M.ret (.nx ρ):=by
 unfold ez
 rw[h]
 rfl
theorem aT{n:Nat}{τ:DS}{ds:List D}{d:D}(h:τ (ds.map (fun d=>some (Sl.fz d))++List.replicate (n - ds.length) none)=M.ret (.rt d)):bU n τ ds=M.ret d:=by
 unfold bU
 rw[h]
 rfl
theorem mO{n:Nat}{τ:DS}{ds:List D}{ρ:aY}(h:τ (ds.map (fun d=>some (Sl.fz d))++List.replicate (n - ds.length) none)=M.ret (.nx ρ)):bU n τ ds=M.ret .non:=by
 unfold bU
 rw[h]
 rfl
theorem BJ{put:D→aY→Option aY}{δi:DA}{b:DS}{ρ:aY}{ds:List D}{o:Out}(h:δi ρ=M.ret ds)(h2:forL put b ds ρ=M.ret o):noex (er put δi b ρ)=M.ret o:=by
 unfold er
 rw[h,ao,h2]
 rfl
theorem bg{is:List Nat}{τ:DS}{ρ ρ':aY}(h:τ ρ=M.ret (.nx ρ')):cB is τ ρ=M.ret (.nx (fgt is ρ')):=by
 unfold cB
 rw[h]
 rfl
theorem b9{n:Nat}{δi:DA}{δt:DT}{δe:DE}{ρ:aY}{ds ys:List D}(h:δi ρ=M.ret ds)(h2:dg (g0 n δt δe ρ) ds=M.ret ys)(h3:ys.length≤lim):bt n δi δt δe ρ=M.ret (.lst ys):=by
 unfold bt
 rw[h,ao,h2,AV,ao,AL h3]
theorem lx{n:Nat}(h:n≤4096):jx [.int (n:Int)]=M.ret (gk 0 n):=by
 show (if -4096≤(n:Int)∧(n:Int)≤4096 then M.ret (gk 0 (n:Int).toNat) else M.stuck)=_
 rw[if_pos ⟨by omega,by omega⟩]
 rfl
structure Alpha (al:Str):Prop where
 pos:0<al.length
 ok:∀c∈al.cps.toList,lE c
theorem EG:Alpha "ab"∧Alpha "abc"∧Alpha "aab"∧Alpha "fa":=by
 refine⟨⟨by decide+kernel,?_⟩,⟨by decide+kernel,?_⟩,⟨by decide+kernel,?_⟩,⟨by decide+kernel,?_⟩⟩<;>decide+kernel
theorem tQ{x:Str}{i:Nat}(h:i<x.length):∃c,c∈x.cps.toList∧x.cps.toList[i]? =some c∧nI (.str x) (.int (i:Int))=M.ret (.str ⟨#[c]⟩):=by
 have h:i<x.cps.toList.length:=by rw[Array.length_toList];exact h
 refine⟨x.cps.toList[i],List.getElem_mem h,List.getElem?_eq_getElem h,?_⟩
 show (match L2.atI x.cps.toList (i:Int) with | some c=>M.ret (D.str ⟨#[c]⟩) | none=>M.stuck)=_
 rw[g8 (List.getElem?_eq_getElem h)]
abbrev brd(bd:List Str):D:= .tup (bd.map D.str)
abbrev sgn(at' mo:Nat)(ns:List Int)(W:Nat)(al:Str)(bd:List Str)(R:Nat)(x7 x8:Option Sl):aY:=[fz (.scr ns),fz (.int (at':Int)),fz (.int (mo:Int)),fz (.int (R:Int)),fz (.int (W:Int)),fz (.str al),fz (brd bd),x7,x8]
def Mp:DE:=bt 0 (fun ρ=>(aC (dV 4) aN) ρ>>=jx) du (d2 nI (dV 6) (ak 3 aI (aC (dV 1) (aC (d2 c0 (d2 c0 (d2 c0 (dV 2) (dC (.int 3))) (d2 f6 (dC (.int 7)) (dV 8))) (dV 0)) (aC (dA ba (aC (dV 6) aN)) aN)))))
theorem zq(at' mo:Nat)(ns:List Int)(hl:ns.length≤63)(al:Str)(ha:Alpha al)(j W R:Nat)(hW:W≤5)(bd:List Str)(x8:Option Sl):
 ∃ys,Mp (sgn at' mo ns W al bd R (fz (.int (0+(j:Int)))) x8)=M.ret (.lst ys)∧ys.length=W∧∀y∈ys,∃c,y= .str ⟨#[c]⟩∧lE c:=by
 obtain⟨ys,e,Er,hp⟩:=pZ (f:=g0 0 du (d2 nI (dV 6) (ak 3 aI (aC (dV 1) (aC (d2 c0 (d2 c0 (d2 c0 (dV 2) (dC (.int 3))) (d2 f6 (dC (.int 7)) (dV 8))) (dV 0)) (aC (dA ba (aC (dV 6) aN)) aN)))))
  (sgn at' mo ns W al bd R (fz (.int (0+(j:Int)))) x8)) (Pr:=fun y=>∃c,y= .str ⟨#[c]⟩∧lE c) (gk 0 W) fun d hd=>by
  obtain⟨i,hi,rfl⟩:=BI hd
  obtain⟨v,hv,e⟩:=eN ns hl (at'+3+7*j+i) al.length ha.pos
  obtain⟨c,hc,_,e2⟩:=tQ hv
  refine⟨.str ⟨#[c]⟩,?_,c,rfl,ha.ok c hc⟩
  rw[m8]
  have k:(at':Int)+3+7*(0+(j:Int))+(0+(i:Int))=((at'+3+7*j+i:Nat):Int):=by omega
  have m1:f6 (.int 7) (.int (0+(j:Int)))=M.ret (.int (7*(0+(j:Int)))):=eY (.inl ⟨by decide,by decide⟩)
  simp only[ak,d2,dV,dC,dA,aC,aN,ao,List.length_cons,List.length_nil,List.getElem?_cons_zero,List.getElem?_cons_succ,Nat.reduceAdd,if_true,fY,m1,k,ba,e,e2]
 refine⟨ys,b9 (lx (n:=W) (by omega)) e (by rw[Er,iy,c5];omega),by rw[Er,iy],hp⟩
def Mq:DS:=bB 6 (d2 tP (dV 6) (dA fv (aC (dM Ay joinM (dC (.str "")) (aC (dV 8) aN)) aN)))
theorem Cu(at' mo:Nat)(ns:List Int)(W:Nat)(al:Str)(bd:List Str)(R:Nat)(x7:Option Sl)(ys:List D)(hb:bd.length≤5)(hy:ys.length≤5)(s3:∀y∈ys,∃c,y= .str ⟨#[c]⟩∧lE c):
 ∃r,(Row ys.length r∧G7 r)∧Mq (sgn at' mo ns W al bd R x7 (fz (.lst ys)))=M.ret (.nx (sgn at' mo ns W al (bd++[r]) R x7 (fz (.lst ys)))):=by
 obtain⟨xs,t1,t2,t3,t4⟩:=u9 ys s3
 refine⟨dr xs,t4,?_⟩
 have jn:joinM (.str "") [.lst ys]=M.ret (.str (dr xs)):=by
  show (match mC ys with | some (xs:List Str)=>if ("":Str).length=0∧(xs.map (fun x:Str=>x.length)).sum≤lim then M.ret (D.str (dr xs)) else M.stuck | none=>M.stuck)=_
  rw[t1]
  show (if ("":Str).length=0∧(xs.map (fun x:Str=>x.length)).sum≤lim then M.ret (D.str (dr xs)) else M.stuck)=_
  rw[if_pos ⟨rfl,by rw[t3,c5];omega⟩]
 have ct:tP (brd bd) (.tup [.str (dr xs)])=M.ret (brd (bd++[dr xs])):=by
  show (if (bd.map D.str).length+1≤lim then M.ret (D.tup (bd.map D.str++[.str (dr xs)])) else M.stuck)=_
  rw[if_pos (by rw[List.length_map,c5];omega)]
  simp[brd]
 refine(aL (d:=brd (bd++[dr xs])) ?_).trans rfl
 simp only[d2,dV,dC,dA,aC,aN,dM,Ay,ao,List.getElem?_cons_zero,List.getElem?_cons_succ,if_true,jn,fv,List.length_cons,List.length_nil,c5,Nat.reduceAdd,Nat.reduceLeDiff,ct]
theorem vA(ns:List Int)(hl:ns.length≤63)(at' mo:Nat)(m0:0<mo)(m5:mo≤5):∃bd W,Good bd W∧(∀r∈bd,G7 r)∧bd.length≤mo∧W≤mo∧d7 [.scr ns, .int (at':Int), .int (mo:Int)]=M.ret (brd bd):=by
 obtain⟨r,hr,e1⟩:=eN ns hl at' mo m0
 obtain⟨c,hc,e2⟩:=eN ns hl (at'+1) mo m0
 obtain⟨a,ha,e3⟩:=eN ns hl (at'+2) 4 (by decide)
 obtain⟨al,Ek,e4⟩:∃al,Alpha al∧vP (.lst [.str "ab", .str "abc", .str "aab", .str "fa"]) (.int (a:Int))=M.ret (.str al):=by
  obtain⟨a1,a2,a3,a4⟩:=EG
  match a,ha with
  |0,_=>exact⟨_,a1,rfl⟩
  |1,_=>exact⟨_,a2,rfl⟩
  |2,_=>exact⟨_,a3,rfl⟩
  |3,_=>exact⟨_,a4,rfl⟩
 have k1:(1:Int)+(r:Int)=((r+1:Nat):Int):=by omega
 have k2:(1:Int)+(c:Int)=((c+1:Nat):Int):=by omega
 have zy:aI [.scr ns, .int (at':Int), .int (mo:Int)]=M.ret (.int (r:Int)):=e1
 have GS:aI [.scr ns, .int ((at':Int)+1), .int (mo:Int)]=M.ret (.int (c:Int)):=e2
 have Jf:aI [.scr ns, .int ((at':Int)+2), .int 4]=M.ret (.int (a:Int)):=e3
 obtain⟨ρ',f1,bd,f2,f3,f4⟩:=tN (put:=putN 7) (body:=cB [7,8] (av (bB 8 Mp) Mq))
  (I:=fun i ρ=>∃bd,ρ=sgn at' mo ns (c+1) al bd (r+1) none none∧bd.length=i∧∀z∈bd,Row (c+1) z∧G7 z)
  (gk 0 (r+1)) 0 (sgn at' mo ns (c+1) al [] (r+1) none none) ⟨[],rfl,rfl,fun _ h=>by cases h⟩ fun j d hd ρ ⟨bd,hρ,hb,hw⟩=>by
   obtain⟨hj,rfl⟩:=DN hd
   subst hρ
   obtain⟨ys,s1,s2,s3⟩:=zq at' mo ns hl al Ek j (c+1) (r+1) (by omega) bd none
   obtain⟨zD,t1,t2⟩:=Cu at' mo ns (c+1) al bd (r+1) (fz (.int (0+(j:Int)))) ys (by omega) (by omega) s3
   refine⟨_,_,rfl,bg (ai (aL s1) t2),bd++[zD],rfl,by simp[hb],fun z hz=>?_⟩
   rcases List.mem_append.mp hz with h | h
   ·exact hw z h
   ·have h:z=zD:=by simpa using h
    subst h
    rw[s2] at t1
    exact t1
 refine⟨bd,c+1,⟨by rw[f3,iy];omega,by rw[f3,iy];omega,by omega,by omega,fun r q=>(f4 r q).1⟩,fun r q=>(f4 r q).2,by rw[f3,iy];omega,by omega,?_⟩
 subst f2
 refine aT ?_
 refine ai (aL (d:= .int ((r+1:Nat):Int)) ?_) ?_
 ·simp only[ak,d2,dV,dC,aC,aN,ao,List.map_cons,List.map_nil,List.cons_append,List.nil_append,List.length_cons,List.length_nil,List.getElem?_cons_zero,List.getElem?_cons_succ,Nat.reduceAdd,if_true,fY,zy,k1]
 refine ai (aL (d:= .int ((c+1:Nat):Int)) ?_) ?_
 ·simp only[ak,d2,dV,dC,aC,aN,ao,List.map_cons,List.map_nil,List.cons_append,List.nil_append,List.length_cons,List.length_nil,List.replicate,List.set_cons_zero,List.set_cons_succ,Nat.reduceSub,List.getElem?_cons_zero,List.getElem?_cons_succ,Nat.reduceAdd,if_true,fY,GS,k2]
 refine ai (aL (d:= .str al) ?_) ?_
 ·simp only[ak,d2,dV,dC,dA,aC,aN,ao,List.map_cons,List.map_nil,List.cons_append,List.nil_append,List.length_cons,List.length_nil,List.replicate,List.set_cons_zero,List.set_cons_succ,Nat.reduceSub,List.getElem?_cons_zero,List.getElem?_cons_succ,Nat.reduceAdd,if_true,fY,Jf,e_,c5,Nat.reduceLeDiff,e4]
 refine ai (aL (d:= .tup []) rfl) ?_
 refine ai (BJ (lx (n:=r+1) (by omega)) f1) ?_
 exact aB rfl
def Plain:D→Prop
 | .non | .bl _ | .int _ | .str _ | .tup _ | .lst _=>True
 |_=>False
def isStr:D→Bool
 | .str _=>true
 |_=>false
def isTup:D→Bool
 | .tup _=>true
 |_=>false
theorem ft{d:D}(h:Plain d):g7 [d, .raw (.ty "str")]=M.ret (.bl (isStr d)):=by
 cases d<;>first | rfl | exact h.elim
theorem mJ{d:D}(h:Plain d):g7 [d, .raw (.ty "tuple")]=M.ret (.bl (isTup d)):=by
 cases d<;>first | rfl | exact h.elim
def rH:D→Bool
 | .str x=>(x.length==1)&&Ck x
 |_=>false
theorem rf{ρ:aY}{i:Nat}{d:D}(h:ρ[i]? =some (fz d)):dV i ρ=M.ret d:=by
 unfold dV
 rw[h]
theorem eq_int(i j:Int):nH (.int i) (.int j)=M.ret (.bl (i==j)):=rfl
theorem ne_int(i j:Int):kR (.int i) (.int j)=M.ret (.bl (!(i==j))):=rfl
theorem len_str(x:Str):ba [.str x]=M.ret (.int (x.length:Int)):=rfl
theorem in_str(x:Str):Ah false (.str x) (.str "abcdef")=M.ret (.bl (Ck x)):=rfl
theorem jr(a b:Nat):((a:Int)==(b:Int))=(a==b):=by
 by_cases h:a=b
 ·subst h;simp
 ·have h2:¬(a:Int)=(b:Int):=by omega
  rw[beq_eq_false_iff_ne.mpr h,beq_eq_false_iff_ne.mpr h2]
theorem C5{d:D}(h:Plain d){i:Nat}{ρ:aY}(hρ:ρ[i]? =some (fz d)):
 eV (dA g7 (aC (dV i) (aC (dC (.raw (.ty "str"))) aN))) (eV (d2 nH (dA ba (aC (dV i) aN)) (dC (.int 1))) (d2 (Ah false) (dV i) (dC (.str "abcdef")))) ρ=M.ret (.bl (rH d)):=by
 have hv:=rf hρ
 have e1:=jr
 cases d with
 |str x=>
  have k:((x.length:Int)==1)=(x.length==1):=jr x.length 1
  simp only[eV,dA,aC,aN,dC,d2,hv,ao,ft h,isStr,yo,if_true,len_str,eq_int,k,in_str,rH]
  cases x.length==1<;>rfl
 |non=>simp only[eV,dA,aC,aN,dC,d2,hv,ao,ft h,isStr,yo,if_false,Bool.false_eq_true,rH]
 |bl b=>simp only[eV,dA,aC,aN,dC,d2,hv,ao,ft h,isStr,yo,if_false,Bool.false_eq_true,rH]
 |int b=>simp only[eV,dA,aC,aN,dC,d2,hv,ao,ft h,isStr,yo,if_false,Bool.false_eq_true,rH]
 |tup b=>simp only[eV,dA,aC,aN,dC,d2,hv,ao,ft h,isStr,yo,if_false,Bool.false_eq_true,rH]
 |lst b=>simp only[eV,dA,aC,aN,dC,d2,hv,ao,ft h,isStr,yo,if_false,Bool.false_eq_true,rH]
 |raw _=>exact h.elim
 |exc _=>exact h.elim
 |scr _=>exact h.elim
 |dct _ _=>exact h.elim
 |dci _ _=>exact h.elim
theorem jk{d:D}(h:Plain d):bR [d]=M.ret (.bl (rH d)):=aT (aB (C5 h rfl))
def i2(x:Str):Bool:=x.cps.toList.all fun c=>Ck ⟨#[c]⟩
def mz:D→Bool
 | .str x=>(decide (1≤x.length)&&decide (x.length≤8))&&i2 x
 |_=>false
theorem yp(l:List Bool):bools (l.map D.bl)=some l:=by
 induction l with
 |nil=>rfl
 |cons b r ih=>show (bools (r.map D.bl)).map _=_;rw[ih];rfl
theorem all_map(l:List Bool):allM [.lst (l.map D.bl)]=M.ret (.bl (l.all id)):=by
 show (match bools (l.map D.bl) with | some bs=>M.ret (D.bl (bs.all id)) | none=>M.stuck)=_
 rw[yp]
theorem zX{δ:DE}{ρ:aY}{n:Nat}(h:δ ρ=M.ret (.int (n:Int))):
 cf (vH (fun i j=>decide (i≤j)) (fun i j=>decide (i≤j)) (dC (.int 1)) δ (dC (.int 8))) ρ=M.ret (decide (1≤n)&&decide (n≤8)):=by
 have k1:decide ((1:Int)≤(n:Int))=decide (1≤n):=by by_cases h:1≤n<;>simp[h]<;>omega
 have k2:decide ((n:Int)≤8)=decide (n≤8):=by by_cases h:n≤8<;>simp[h]<;>omega
 simp only[cf,vH,dC,h,ao,k1,k2,gI,yo]
 cases decide (1≤n)<;>rfl
theorem vW{d:D}(h:Plain d):eW [d]=M.ret (.bl (mz d)):=by
 refine aT ?_
 have hρ:([d].map (fun d=>some (Sl.fz d))++List.replicate (1 - [d].length) none)=[fz d]:=rfl
 rw[hρ]
 have hv:dV 0 [fz d]=M.ret d:=rfl
 have no:isStr d=false→vh [fz d]=M.ret (.rt (.bl false)):=fun hs=>by
  refine dF (eC ?_ (aB rfl))
  simp only[ni,cP,bN,dA,aC,aN,dC,hv,ao,ft h,hs,u7,Bool.not_false,if_true]
 cases d with
 |str x=>
  have hi:bN (dA g7 (aC (dV 0) (aC (dC (.raw (.ty "str"))) aN))) [fz (.str x)]=M.ret true:=by
   simp only[bN,dA,aC,aN,dC,hv,ao,ft h,isStr,u7]
  have hl:dA ba (aC (dV 0) aN) [fz (.str x)]=M.ret (.int (x.length:Int)):=rfl
  have hc:=zX hl
  by_cases hr:(decide (1≤x.length)&&decide (x.length≤8))=true
  ·rw[hr] at hc
   refine ai (c8 ?_ (ρ:=[fz (.str x)]) rfl) (aB ?_)
   ·unfold ni cP
    rw[hi,ao,ao,hc]
    rfl
   ·have hb:x.length≤8:=by simp only[Bool.and_eq_true,decide_eq_true_eq] at hr;exact hr.2
    have cm:bt 0 (fun ρ=>(dV 0) ρ>>=GG) du (ak 1 bR (aC (dV 0) aN)) [fz (.str x)]=M.ret (.lst ((x.cps.toList.map fun c=>Ck ⟨#[c]⟩).map D.bl)):=by
     refine b9 (ds:=signs x) rfl ?_ ?_
     ·have:=fU (f:=g0 0 du (ak 1 bR (aC (dV 0) aN)) [fz (.str x)]) (g:=fun d=>D.bl (rH d)) (signs x) fun d hd=>by
       rw[m8]
       obtain⟨c,_,rfl⟩:=List.mem_map.mp hd
       show (bR [.str ⟨#[c]⟩]>>=fun y=>M.ret (some y))=_
       rw[jk (d:= .str ⟨#[c]⟩) trivial]
       rfl
      rw[this]
      unfold signs
      rw[List.map_map,List.map_map]
      congr 1
     ·rw[List.length_map,List.length_map,Array.length_toList,c5]
      exact Nat.le_trans hb (by decide)
    rw[b8 (aU cm rfl),all_map]
    show M.ret (D.bl ((x.cps.toList.map fun c=>Ck ⟨#[c]⟩).all id))=M.ret (D.bl ((decide (1≤x.length)&&decide (x.length≤8))&&i2 x))
    rw[hr]
    unfold i2
    rw[List.all_map]
    rfl
  ·have hr:(decide (1≤x.length)&&decide (x.length≤8))=false:=by simpa using hr
   rw[hr] at hc
   have:mz (.str x)=false:=by
    show ((decide (1≤x.length)&&decide (x.length≤8))&&i2 x)=false
    rw[hr];rfl
   rw[this]
   refine dF (eC ?_ (aB rfl))
   unfold ni cP
   rw[hi,ao,ao,hc]
   rfl
 |non=>exact no rfl
 |bl b=>exact no rfl
 |int b=>exact no rfl
 |tup b=>exact no rfl
 |lst b=>exact no rfl
 |raw _=>exact h.elim
 |exc _=>exact h.elim
 |scr _=>exact h.elim
 |dct _ _=>exact h.elim
 |dci _ _=>exact h.elim
def jH:D→Nat
 | .str x=>x.length
 |_=>0
def mX:D→Bool
 | .tup ds=>(decide (1≤ds.length)&&decide (ds.length≤8))&&(ds.all mz&&ds.all fun d=>jH d==jH (ds.headD .non))
 |_=>false
def Plain2:D→Prop
 | .tup ds=>∀d∈ds,Plain d
 |d=>Plain d
theorem Plain2.plain{d:D}(h:Plain2 d):Plain d:=by
 cases d<;>first | exact h | exact trivial
theorem C4{ds:List D}:ba [.tup ds]=M.ret (.int (ds.length:Int)):=rfl
theorem KI{ds:List D}{d:D}{r:List D}(h:ds=d::r):bw (.tup ds) (.int 0)=M.ret d:=by
 subst h
 show (match L2.atI (d::r) ((0:Nat):Int) with | some d=>M.ret d | none=>M.stuck)=_
 rw[g8 (x:=d) rfl]
theorem DP{d:D}(h:mz d=true):∃x,d= .str x:=by
 cases d<;>first | exact⟨_,rfl⟩ | cases h
theorem yC{d:D}(h:Plain d):ni (cP (bN (dA g7 (aC (dV 0) (aC (dC (.raw (.ty "tuple"))) aN))))) (cP (cf (vH (fun i j=>decide (i≤j)) (fun i j=>decide (i≤j)) (dC (.int 1)) (dA ba (aC (dV 0) aN)) (dC (.int 8))))) [fz d]=
 M.ret (match d with | .tup ds=>!(decide (1≤ds.length)&&decide (ds.length≤8)) | _=>true):=by
 have hv:dV 0 [fz d]=M.ret d:=rfl
 have no:isTup d=false→ni (cP (bN (dA g7 (aC (dV 0) (aC (dC (.raw (.ty "tuple"))) aN))))) (cP (cf (vH (fun i j=>decide (i≤j)) (fun i j=>decide (i≤j)) (dC (.int 1)) (dA ba (aC (dV 0) aN)) (dC (.int 8))))) [fz d]=M.ret true:=fun hs=>by
  simp only[ni,cP,bN,dA,aC,aN,dC,hv,ao,mJ h,hs,u7,Bool.not_false,if_true]
 cases d with
 |tup ds=>
  have hi:bN (dA g7 (aC (dV 0) (aC (dC (.raw (.ty "tuple"))) aN))) [fz (.tup ds)]=M.ret true:=by
   simp only[bN,dA,aC,aN,dC,hv,ao,mJ h,isTup,u7]
  have hl:dA ba (aC (dV 0) aN) [fz (.tup ds)]=M.ret (.int (ds.length:Int)):=rfl
  unfold ni cP
  rw[hi,ao,ao,zX hl]
  rfl
 |non=>exact no rfl
 |bl b=>exact no rfl
 |int b=>exact no rfl
 |str b=>exact no rfl
 |lst b=>exact no rfl
 |raw _=>exact h.elim
 |exc _=>exact h.elim
 |scr _=>exact h.elim
 |dct _ _=>exact h.elim
 |dci _ _=>exact h.elim
theorem all_rows{ds:List D}(h:∀d∈ds,Plain d)(hl:ds.length≤8):dA allM (aC (bt 0 (vJ (dV 0)) du (ak 1 eW (aC (dV 0) aN))) aN) [fz (.tup ds)]=M.ret (.bl (ds.all mz)):=by
 have cm:bt 0 (vJ (dV 0)) du (ak 1 eW (aC (dV 0) aN)) [fz (.tup ds)]=M.ret (.lst ((ds.map mz).map D.bl)):=by
  refine b9 (ds:=ds) rfl ?_ (by rw[List.length_map,List.length_map,c5];omega)
  rw[List.map_map]
  refine fU (g:=D.bl∘mz) ds fun d hd=>?_
  rw[m8]
  show (eW [d]>>=fun y=>M.ret (some y))=_
  rw[vW (h d hd)]
  rfl
 rw[b8 (aU cm rfl),all_map,List.all_map]
 rfl
theorem all_lens{ds:List D}(hs:∀d∈ds,∃x,d= .str x)(h0:1≤ds.length)(hl:ds.length≤8):
 dA allM (aC (bt 0 (vJ (dV 0)) du (d2 nH (dA ba (aC (dV 0) aN)) (dA ba (aC (d2 bw (dV 1) (dC (.int 0))) aN)))) aN) [fz (.tup ds)]=M.ret (.bl (ds.all fun d=>jH d==jH (ds.headD .non))):=by
 obtain⟨d0,r,e0⟩:∃d0 r,ds=d0::r:=by
  cases ds with
  |nil=>simp at h0
  |cons a r=>exact⟨a,r,rfl⟩
 have hh:ds.headD .non=d0:=by rw[e0];rfl
 obtain⟨x0,L1⟩:=hs d0 (by rw[e0];exact List.mem_cons_self ..)
 have cm:bt 0 (vJ (dV 0)) du (d2 nH (dA ba (aC (dV 0) aN)) (dA ba (aC (d2 bw (dV 1) (dC (.int 0))) aN))) [fz (.tup ds)]=M.ret (.lst ((ds.map fun d=>jH d==jH (ds.headD .non)).map D.bl)):=by
  refine b9 (ds:=ds) rfl ?_ (by rw[List.length_map,List.length_map,c5];omega)
  rw[List.map_map]
  refine fU (g:=D.bl∘fun d=>jH d==jH (ds.headD .non)) ds fun d hd=>?_
  rw[m8]
  obtain⟨x,rfl⟩:=hs d hd
  have k:((x.length:Int)==(x0.length:Int))=(x.length==x0.length):=jr _ _
  have i0:bw (.tup ds) (.int 0)=M.ret (.str x0):=by rw[KI e0,L1]
  have Na:ds.headD .non= .str x0:=by rw[hh,L1]
  simp only[d2,dA,aC,aN,dC,dV,ao,List.getElem?_cons_zero,List.getElem?_cons_succ,len_str,i0,eq_int,k,Function.comp,jH,Na]
 rw[b8 (aU cm rfl),all_map,List.all_map]
 rfl
theorem rE{d:D}(h:Plain2 d):gE [d]=M.ret (.bl (mX d)):=by
 refine aT ?_
 have hρ:([d].map (fun d=>some (Sl.fz d))++List.replicate (1 - [d].length) none)=[fz d]:=rfl
 rw[hρ]
 have hf:=yC h.plain
 have no:(∀ds,d≠ .tup ds)→pd [fz d]=M.ret (.rt (.bl (mX d))):=fun hn=>by
  cases d<;>first | exact absurd rfl (hn _) | exact dF (eC hf (aB rfl))
 cases d with
 |tup ds=>
  have hf:_=M.ret (!(decide (1≤ds.length)&&decide (ds.length≤8))):=hf
  by_cases hr:(decide (1≤ds.length)&&decide (ds.length≤8))=true
  ·rw[hr] at hf
   have hb:=hr
   simp only[Bool.and_eq_true,decide_eq_true_eq] at hb
   have e:mX (.tup ds)=(ds.all mz&&ds.all fun d=>jH d==jH (ds.headD .non)):=by
    show ((decide (1≤ds.length)&&decide (ds.length≤8))&&_)=_
    rw[hr,Bool.true_and]
   rw[e]
   have a1:=all_rows h hb.2
   refine ai (c8 hf rfl) ?_
   cases hc:ds.all mz with
   |false=>
    rw[hc] at a1
    refine dF (eC ?_ (aB rfl))
    unfold cP bN
    rw[a1]
    rfl
   |true=>
    rw[hc] at a1
    refine ai (c8 ?_ rfl) (aB ?_)
    ·unfold cP bN
     rw[a1]
     rfl
    ·rw[Bool.true_and]
     exact all_lens (fun d hd=>DP (List.all_eq_true.mp hc d hd)) hb.1 hb.2
  ·have hr:(decide (1≤ds.length)&&decide (ds.length≤8))=false:=by simpa using hr
   rw[hr] at hf
   have e:mX (.tup ds)=false:=by
    show ((decide (1≤ds.length)&&decide (ds.length≤8))&&_)=_
    rw[hr];rfl
   rw[e]
   exact dF (eC hf (aB rfl))
 |non=>exact no fun _ z=>by cases z
 |bl b=>exact no fun _ z=>by cases z
 |int b=>exact no fun _ z=>by cases z
 |str b=>exact no fun _ z=>by cases z
 |lst b=>exact no fun _ z=>by cases z
 |raw _=>exact h.elim
 |exc _=>exact h.elim
 |scr _=>exact h.elim
 |dct _ _=>exact h.elim
 |dci _ _=>exact h.elim
structure Brd (ob:List Str) (V:Nat):Prop where
 r1:1≤ob.length
 r8:ob.length≤8
 w1:1≤V
 w8:V≤8
 rows:∀r∈ob,Row V r
theorem Good.brd{bd:List Str}{W:Nat}(hg:Good bd W):Brd bd W:=⟨hg.r1,by have:=hg.r5;omega,hg.w1,by have:=hg.w5;omega,hg.rows⟩
theorem Brd.board{ob:List Str}{V:Nat}(h:Brd ob V):mX (brd ob)=true:=by
 have Kp:∀r∈ob,mz (.str r)=true:=fun r hr=>by
  have q:=h.rows r hr
  show ((decide (1≤r.length)&&decide (r.length≤8))&&i2 r)=true
  rw[q.len]
  have a:decide (1≤V)=true:=decide_eq_true h.w1
  have b:decide (V≤8)=true:=decide_eq_true h.w8
  rw[a,b]
  show i2 r=true
  exact List.all_eq_true.mpr fun c hc=>q.let' c hc
 have h0:jH ((ob.map D.str).headD .non)=V:=by
  have:=h.r1
  have hr:=h.rows
  cases ob with
  |nil=>simp at this
  |cons x l=>exact(hr x (List.mem_cons_self ..)).len
 show ((decide (1≤(ob.map D.str).length)&&decide ((ob.map D.str).length≤8))&&((ob.map D.str).all mz&&(ob.map D.str).all fun d=>jH d==jH ((ob.map D.str).headD .non)))=true
 rw[h0,List.length_map,decide_eq_true h.r1,decide_eq_true h.r8]
 have a:(ob.map D.str).all mz=true:=List.all_eq_true.mpr fun d hd=>by
  obtain⟨r,hr,rfl⟩:=List.mem_map.mp hd
  exact Kp r hr
 have b:((ob.map D.str).all fun d=>jH d==V)=true:=List.all_eq_true.mpr fun d hd=>by
  obtain⟨r,hr,rfl⟩:=List.mem_map.mp hd
  show (r.length==V)=true
  rw[(h.rows r hr).len]
  simp
 rw[a,b]
 rfl
theorem yq{bd:List Str}:Plain2 (brd bd):=fun d hd=>by
 obtain⟨r,_,rfl⟩:=List.mem_map.mp hd
 trivial
theorem nj{δ:DE}{ρ:aY}{b:Bool}(h:δ ρ=M.ret (.bl b)):bN δ ρ=M.ret b:=by
 unfold bN
 rw[h]
 rfl
theorem fj{δ:DE}{ρ:aY}{b:Bool}(h:δ ρ=M.ret (.bl b)):cf δ ρ=M.ret b:=by
 unfold cf
 rw[h]
 rfl
theorem vK{τ:DT}{ρ:aY}{b:Bool}(h:τ ρ=M.ret b):cP τ ρ=M.ret (!b):=by
 unfold cP
 rw[h]
 rfl
theorem Hg{a c:DT}{ρ:aY}{p q:Bool}(h1:a ρ=M.ret p)(h2:c ρ=M.ret q):ni a c ρ=M.ret (p||q):=by
 unfold ni
 rw[h1,ao]
 cases p
 ·exact h2
 ·rfl
theorem rb{a c:DT}{ρ:aY}{p q:Bool}(h1:a ρ=M.ret p)(h2:c ρ=M.ret q):nh a c ρ=M.ret (p&&q):=by
 unfold nh
 rw[h1,ao]
 cases p
 ·rfl
 ·exact h2
theorem He{c:DT}{a b:DE}{ρ:aY}{p:Bool}(h:c ρ=M.ret p):Ea c a b ρ=if p then a ρ else b ρ:=by
 unfold Ea
 rw[h]
 rfl
theorem Brd.nb{ob:List Str}{V:Nat}(h:Brd ob V):aE [brd ob]=M.ret .non:=by
 refine mO (ρ:=[fz (brd ob)]) (c8 (vK (nj (b:=true) ?_)) rfl)
 refine(aj (ds:=[brd ob]) rfl rfl).trans ?_
 rw[rE yq,h.board]
theorem Brd.len0{ob:List Str}{V:Nat}(h:Brd ob V){i:Nat}{ρ:aY}(hρ:ρ[i]? =some (fz (brd ob))):dA ba (aC (d2 bw (dV i) (dC (.int 0))) aN) ρ=M.ret (.int (V:Int)):=by
 have h1:=h.r1
 have hr:=h.rows
 obtain⟨x,l,e⟩:∃x l,ob=x::l:=by
  cases ob with
  |nil=>simp at h1
  |cons x l=>exact⟨x,l,rfl⟩
 have hx:x.length=V:=(hr x (by rw[e];exact List.mem_cons_self ..)).len
 have i0:bw (brd ob) (.int 0)=M.ret (.str x):=KI (show ob.map D.str=D.str x::l.map D.str by rw[e];rfl)
 have k:=aP (g:=bw) (rf hρ) (show dC (.int 0) ρ=M.ret (.int 0) from rfl)
 rw[i0] at k
 rw[b8 (aU (xs:=[]) k rfl)]
 show M.ret (D.int (x.length:Int))=_
 rw[hx]
theorem FH{bd:List Str}{i:Nat}{ρ:aY}(hρ:ρ[i]? =some (fz (brd bd))):dA ba (aC (dV i) aN) ρ=M.ret (.int (bd.length:Int)):=by
 have:ba [brd bd]=M.ret (.int (bd.length:Int)):=by
  show M.ret (D.int ((bd.map D.str).length:Int))=_
  rw[List.length_map]
 simp only[dA,aC,aN,rf hρ,ao,this]
def gY:D→Bool
 | .int _=>true
 |_=>false
theorem qQ{d:D}(h:Plain d):bp [d]=M.ret (.bl (gY d)):=by
 cases d<;>first | rfl | exact h.elim
def Hb(R W:Nat):D→D→Bool
 | .int a, .int b=>(decide (0≤a)&&decide (a<(R:Int)))&&(decide (0≤b)&&decide (b<(W:Int)))
 |_,_=>false
def D_(R W:Nat):D→Bool
 | .tup [u,v]=>Hb R W u v
 |_=>false
theorem Hd{δ ε:DE}{ρ:aY}{i n:Int}(h:δ ρ=M.ret (.int i))(h2:ε ρ=M.ret (.int n)):
 vH (fun i j=>decide (i≤j)) (fun i j=>decide (i<j)) (dC (.int 0)) δ ε ρ=M.ret (.bl (decide (0≤i)&&decide (i<n))):=by
 simp only[vH,dC,h,h2,ao,gI]
 cases decide (0≤i)<;>rfl
theorem tX{bd:List Str}{W:Nat}(hg:Brd bd W){d:D}(h:Plain2 d):iT [brd bd,d]=M.ret (.bl (D_ bd.length W d)):=by
 refine aT ?_
 have hρ:([brd bd,d].map (fun d=>some (Sl.fz d))++List.replicate (2 - [brd bd,d].length) none)=[fz (brd bd),fz d]:=rfl
 rw[hρ]
 have hv:dV 1 [fz (brd bd),fz d]=M.ret d:=rfl
 have no:isTup d=false→qR [fz (brd bd),fz d]=M.ret (.rt (.bl false)):=fun hs=>by
  refine dF (eC ?_ (aB rfl))
  simp only[ni,cP,bN,dA,aC,aN,dC,hv,ao,mJ h.plain,hs,u7,Bool.not_false,if_true]
 cases d with
 |tup ds=>
  have hi:cP (bN (dA g7 (aC (dV 1) (aC (dC (.raw (.ty "tuple"))) aN)))) [fz (brd bd),fz (.tup ds)]=M.ret false:=by
   simp only[cP,bN,dA,aC,aN,dC,hv,ao,mJ h.plain,isTup,u7,Bool.not_true]
  have k:((ds.length:Int)==2)=(ds.length==2):=jr ds.length 2
  have hl:ni (cP (bN (dA g7 (aC (dV 1) (aC (dC (.raw (.ty "tuple"))) aN))))) (cf (d2 kR (dA ba (aC (dV 1) aN)) (dC (.int 2)))) [fz (brd bd),fz (.tup ds)]=M.ret (!(ds.length==2)):=by
   unfold ni
   rw[hi]
   simp only[cf,d2,dA,aC,aN,dC,hv,ao,C4,ne_int,k,yo,Bool.false_eq_true,if_false]
  match ds,h,hl with
  |[],h,hl=>exact dF (eC hl (aB rfl))
  |[_],h,hl=>exact dF (eC hl (aB rfl))
  |_::_::_::_,h,hl=>
   refine dF (eC (hl.trans ?_) (aB rfl))
   simp
  |[u,v],h,hl=>
   refine ai (c8 hl rfl) ?_
   have pu:Plain u:=h u (by simp)
   have pv:Plain v:=h v (by simp)
   have w1:ak 1 bp (aC (d2 bw (dV 1) (dC (.int 0))) aN) [fz (brd bd),fz (.tup [u,v])]=M.ret (.bl (gY u)):=qQ pu
   have w2:ak 1 bp (aC (d2 bw (dV 1) (dC (.int 1))) aN) [fz (brd bd),fz (.tup [u,v])]=M.ret (.bl (gY v)):=qQ pv
   have hw:ni (cP (bN (ak 1 bp (aC (d2 bw (dV 1) (dC (.int 0))) aN)))) (cP (bN (ak 1 bp (aC (d2 bw (dV 1) (dC (.int 1))) aN)))) [fz (brd bd),fz (.tup [u,v])]=M.ret (!(gY u&&gY v)):=by
    unfold ni cP bN
    rw[w1,w2]
    simp only[ao,u7]
    cases gY u<;>cases gY v<;>rfl
   have bad:(gY u&&gY v)=false→av (fN (ni (cP (bN (ak 1 bp (aC (d2 bw (dV 1) (dC (.int 0))) aN)))) (cP (bN (ak 1 bp (aC (d2 bw (dV 1) (dC (.int 1))) aN))))) (a9 (dC (.bl false))) cC) (a9 (eV (vH (fun i j=>decide (i≤j)) (fun i j=>decide (i<j)) (dC (.int 0)) (d2 bw (dV 1) (dC (.int 0))) (dA ba (aC (dV 0) aN))) (vH (fun i j=>decide (i≤j)) (fun i j=>decide (i<j)) (dC (.int 0)) (d2 bw (dV 1) (dC (.int 1))) (dA ba (aC (d2 bw (dV 0) (dC (.int 0))) aN))))) [fz (brd bd),fz (.tup [u,v])]=M.ret (.rt (.bl false)):=fun hz=>by
    rw[hz] at hw
    exact dF (eC hw (aB rfl))
   match u,v,hw,bad with
   | .int a, .int b,hw,bad=>
     refine ai (c8 hw rfl) (aB ?_)
     obtain⟨x0,r,e0⟩:∃x0 r,bd=x0::r:=by
      have:=hg.r1
      cases bd with
      |nil=>simp at this
      |cons x r=>exact⟨x,r,rfl⟩
     have hx:x0.length=W:=(hg.rows x0 (by rw[e0];simp)).len
     have l0:dA ba (aC (dV 0) aN) [fz (brd bd),fz (.tup [.int a, .int b])]=M.ret (.int (bd.length:Int)):=by
      show M.ret (D.int ((bd.map D.str).length:Int))=_
      rw[List.length_map]
     have l1:dA ba (aC (d2 bw (dV 0) (dC (.int 0))) aN) [fz (brd bd),fz (.tup [.int a, .int b])]=M.ret (.int (W:Int)):=by
      have i0:bw (brd bd) (.int 0)=M.ret (.str x0):=KI (r:=r.map D.str) (by rw[e0];rfl)
      simp only[dA,aC,aN,d2,dC,dV,List.getElem?_cons_zero,ao,i0,len_str,hx]
     have c1:=Hd (δ:=d2 bw (dV 1) (dC (.int 0))) (i:=a) rfl l0
     have c2:=Hd (δ:=d2 bw (dV 1) (dC (.int 1))) (i:=b) rfl l1
     unfold eV
     rw[c1,ao]
     show (if (decide (0≤a)&&decide (a<(bd.length:Int)))=true then _ else _)=M.ret (D.bl ((decide (0≤a)&&decide (a<(bd.length:Int)))&&(decide (0≤b)&&decide (b<(W:Int)))))
     cases (decide (0≤a)&&decide (a<(bd.length:Int)))
     ·rfl
     ·rw[if_pos rfl,c2,Bool.true_and]
   | .non,_,_,bad=>exact bad rfl
   | .bl _,_,_,bad=>exact bad rfl
   | .str _,_,_,bad=>exact bad rfl
   | .tup _,_,_,bad=>exact bad rfl
   | .lst _,_,_,bad=>exact bad rfl
   | .raw _,_,_,_=>exact pu.elim
   | .exc _,_,_,_=>exact pu.elim
   | .scr _,_,_,_=>exact pu.elim
   | .int a, .non,_,bad=>exact bad rfl
   | .int a, .bl _,_,bad=>exact bad rfl
   | .int a, .str _,_,bad=>exact bad rfl
   | .int a, .tup _,_,bad=>exact bad rfl
   | .int a, .lst _,_,bad=>exact bad rfl
   | .int a, .raw _,_,_=>exact pv.elim
   | .int a, .exc _,_,_=>exact pv.elim
   | .int a, .scr _,_,_=>exact pv.elim
 |non=>exact no rfl
 |bl b=>exact no rfl
 |int b=>exact no rfl
 |str b=>exact no rfl
 |lst b=>exact no rfl
 |raw _=>exact h.elim
 |exc _=>exact h.elim
 |scr _=>exact h.elim
 |dct _ _=>exact h.elim
 |dci _ _=>exact h.elim
abbrev Cell:=Nat×Nat
def cD(c:Cell):D:= .tup [.int (c.1:Int), .int (c.2:Int)]
def On(R W:Nat)(c:Cell):Prop:=c.1<R∧c.2<W
instance {R W:Nat}{c:Cell}:Decidable (On R W c):=by unfold On;infer_instance
theorem zR{c:Cell}:Plain2 (cD c):=fun d hd=>by
 have:d= .int (c.1:Int)∨d= .int (c.2:Int):=by simpa[cD] using hd
 rcases this with rfl | rfl<;>trivial
theorem Cv{R W:Nat}{c:Cell}(h:On R W c):D_ R W (cD c)=true:=by
 show ((decide ((0:Int)≤(c.1:Int))&&decide ((c.1:Int)<(R:Int)))&&(decide ((0:Int)≤(c.2:Int))&&decide ((c.2:Int)<(W:Int))))=true
 obtain⟨h1,h2⟩:=h
 simp
 omega
theorem Brd.nc{bd:List Str}{W:Nat}(hg:Brd bd W){c:Cell}(h:On bd.length W c):bb [brd bd,cD c]=M.ret .non:=by
 refine mO (ρ:=[fz (brd bd),fz (cD c)]) (c8 (vK (nj (b:=true) ?_)) rfl)
 refine(aj (ds:=[brd bd,cD c]) rfl rfl).trans ?_
 rw[tX hg zR,Cv h]
def Ways(w:Nat):Prop:=w=4∨w=8
theorem Ways.nw{w:Nat}(h:Ways w):bc [.int (w:Int)]=M.ret .non:=by
 rcases h with rfl | rfl<;>rfl
def ch(x:Str)(j:Nat):Nat:=x.cps.toList.getD j 0
def at2(bd:List Str)(i j:Nat):Nat:=ch (bd.getD i ⟨#[]⟩) j
abbrev lt(bd:List Str)(c:Cell):Nat:=at2 bd c.1 c.2
def sg(n:Nat):D:= .str ⟨#[n]⟩
theorem DU{x:Str}{c:Nat}(h:c<x.length):nI (.str x) (.int (c:Int))=M.ret (sg (ch x c)):=by
 have h':c<x.cps.toList.length:=by rw[Array.length_toList];exact h
 show (match L2.atI x.cps.toList (c:Int) with | some c=>M.ret (D.str ⟨#[c]⟩) | none=>M.stuck)=_
 rw[g8 (List.getElem?_eq_getElem h')]
 unfold sg ch
 rw[List.getD_eq_getElem?_getD,List.getElem?_eq_getElem h']
 rfl
theorem getD_mem{bd:List Str}{i:Nat}(h:i<bd.length):bd.getD i ⟨#[]⟩∈bd:=by
 rw[List.getD_eq_getElem?_getD,List.getElem?_eq_getElem h]
 exact List.getElem_mem h
theorem Fw{bd:List Str}{i:Nat}(h:i<bd.length):bw (brd bd) (.int (i:Int))=M.ret (.str (bd.getD i ⟨#[]⟩)):=by
 show (match L2.atI (bd.map D.str) (i:Int) with | some d=>M.ret d | none=>M.stuck)=_
 rw[g8 (x:= .str (bd.getD i ⟨#[]⟩)) ?_]
 rw[List.getElem?_map,List.getElem?_eq_getElem h,List.getD_eq_getElem?_getD,List.getElem?_eq_getElem h]
 rfl
theorem dZ{bd:List Str}{W:Nat}(hg:Brd bd W){c:Cell}(h:On bd.length W c):aW [brd bd,cD c]=M.ret (sg (lt bd c)):=by
 refine aT (aB ?_)
 refine(aP (x:= .str (bd.getD c.1 ⟨#[]⟩)) (y:= .int (c.2:Int)) ((aP (x:=brd bd) (y:= .int (c.1:Int)) rfl rfl).trans (Fw h.1)) rfl).trans ?_
 exact DU (by rw[(hg.rows _ (getD_mem h.1)).len];exact h.2)
theorem Hm(a b:Nat):nH (sg a) (sg b)=M.ret (.bl (decide (a=b))):=by
 show M.ret (D.bl (decide ((⟨#[a]⟩:Str)=⟨#[b]⟩)))=_
 congr 2
 by_cases h:a=b
 ·subst h;simp
 ·have:¬((⟨#[a]⟩:Str)=⟨#[b]⟩):=fun z=>by
   injection z with z
   exact h (by simpa using z)
  rw[decide_eq_false h,decide_eq_false this]
def gB(a b:Nat):Nat:=max a b - min a b
def mK(w:Nat)(a b:Cell):Bool:=if w=4 then decide (gB a.1 b.1+gB a.2 b.2=1) else decide (max (gB a.1 b.1) (gB a.2 b.2)=1)
theorem wU(a b:Nat):zH [.int ((a:Int) - (b:Int))]=M.ret (.int (gB a b:Int)):=by
 show M.ret (D.int _)=_
 congr 2
 unfold gB
 omega
theorem qU{w:Nat}(hw:Ways w)(a b:Cell):de [cD a,cD b, .int (w:Int)]=M.ret (.bl (mK w a b)):=by
 refine aT ?_
 refine ai (ρ':=[fz (cD a),fz (cD b),fz (.int (w:Int)),fz (.int (gB a.1 b.1:Int)),none]) ((aL (d:= .int (gB a.1 b.1:Int)) (wU a.1 b.1)).trans rfl) ?_
 refine ai (ρ':=[fz (cD a),fz (cD b),fz (.int (w:Int)),fz (.int (gB a.1 b.1:Int)),fz (.int (gB a.2 b.2:Int))]) ((aL (d:= .int (gB a.2 b.2:Int)) (wU a.2 b.2)).trans rfl) ?_
 rcases hw with rfl | rfl
 ·refine dF (eC (fj rfl) (aB ?_))
  show M.ret (D.bl (((gB a.1 b.1:Int)+(gB a.2 b.2:Int))==1))=_
  unfold mK
  rw[if_pos rfl]
  congr 2
  have:((gB a.1 b.1:Int)+(gB a.2 b.2:Int))=((gB a.1 b.1+gB a.2 b.2:Nat):Int):=by omega
  rw[this]
  have e:=jr (gB a.1 b.1+gB a.2 b.2) 1
  exact e.trans rfl
 ·refine ai (c8 (fj rfl) rfl) (aB ?_)
  show M.ret (D.bl ((if (gB a.1 b.1:Int)<(gB a.2 b.2:Int) then(gB a.2 b.2:Int) else(gB a.1 b.1:Int))==1))=_
  have hn:mK 8 a b=decide (max (gB a.1 b.1) (gB a.2 b.2)=1):=rfl
  rw[hn]
  congr 2
  have:(if (gB a.1 b.1:Int)<(gB a.2 b.2:Int) then(gB a.2 b.2:Int) else(gB a.1 b.1:Int))=((max (gB a.1 b.1) (gB a.2 b.2):Nat):Int):=by split<;>omega
  rw[this]
  have e:=jr (max (gB a.1 b.1) (gB a.2 b.2)) 1
  exact e.trans rfl
theorem uk(w:Nat)(a b:Cell):mK w a b=mK w b a:=by
 have e:∀x y:Nat,gB x y=gB y x:=fun x y=>by unfold gB;omega
 unfold mK
 rw[e a.1,e a.2]
theorem dQ{put:D→aY→Option aY}{body:DS}{d:D}{ds:List D}{ρ ρ1 ρ2:aY}(h1:put d ρ=some ρ1)(h2:body ρ1=M.ret (.nx ρ2)):forL put body (d::ds) ρ=forL put body ds ρ2:=by
 show (match put d ρ with | none=>M.stuck | some ρ1=>body ρ1>>=fun o=>match o with | .nx ρ2=>forL put body ds ρ2 | .rt v=>M.ret (.rt v))=_
 rw[h1]
 show (body ρ1>>=fun o=>match o with | .nx ρ2=>forL put body ds ρ2 | .rt v=>M.ret (.rt v))=_
 rw[h2]
 rfl
section
variable{α σ:Type}{put:D→aY→Option aY}{body:DS}
theorem iV(enc:α→D)(mk:σ→aY)(step:σ→α→σ)(I:σ→Prop):∀(xs:List α) (s:σ),I s→(∀s,I s→∀x∈xs,I (step s x)∧∃ρ1,put (enc x) (mk s)=some ρ1∧body ρ1=M.ret (.nx (mk (step s x))))→
 I (xs.foldl step s)∧forL put body (xs.map enc) (mk s)=M.ret (.nx (mk (xs.foldl step s)))
 |[],s,h,_=>⟨h,rfl⟩
 |x::xs,s,h,st=>by
  obtain⟨h2,ρ1,e1,e2⟩:=st s h x (List.mem_cons_self ..)
  obtain⟨h3,e3⟩:=iV enc mk step I xs (step s x) h2 fun s hs y hy=>st s hs y (List.mem_cons_of_mem _ hy)
  exact⟨h3,(dQ e1 e2).trans e3⟩
theorem p8(enc:α→D)(ρ:aY):∀(xs:List α),(∀x∈xs,∃ρ1,put (enc x) ρ=some ρ1∧body ρ1=M.ret (.nx ρ))→forL put body (xs.map enc) ρ=M.ret (.nx ρ)
 |[],_=>rfl
 |x::xs,st=>by
  obtain⟨ρ1,e1,e2⟩:=st x (List.mem_cons_self ..)
  exact(dQ e1 e2).trans (p8 enc ρ xs fun y hy=>st y (List.mem_cons_of_mem _ hy))
theorem fW(enc:α→D)(mk:List D→aY)(g:α→List D){B:Nat}:∀(xs:List α) (acc:List D),(acc++xs.flatMap g).length≤B→(∀x∈xs,∀acc,(acc++g x).length≤B→∃ρ1,put (enc x) (mk acc)=some ρ1∧body ρ1=M.ret (.nx (mk (acc++g x))))→
 forL put body (xs.map enc) (mk acc)=M.ret (.nx (mk (acc++xs.flatMap g)))
 |[],acc,_,_=>by simp;rfl
 |x::xs,acc,hB,st=>by
  have Lx:((acc++g x)++xs.flatMap g).length≤B:=by simpa[List.flatMap_cons,List.append_assoc] using hB
  obtain⟨ρ1,e1,e2⟩:=st x (List.mem_cons_self ..) acc (Nat.le_trans (by simp only[List.length_append];omega) Lx)
  have e3:=fW enc mk g xs (acc++g x) Lx fun y hy=>st y (List.mem_cons_of_mem _ hy)
  rw[List.map_cons,dQ e1 e2,e3,List.flatMap_cons,List.append_assoc]
end
theorem fF{put:D→aY→Option aY}{δi:DA}{b:DS}{ρ:aY}{ds:List D}{m:M Out}(h:δi ρ=M.ret ds)(h2:forL put b ds ρ=m):er put δi b ρ=m:=by
 unfold er
 rw[h]
 exact h2
theorem dE{τ:DS}{ρ:aY}{o:Out}(h:τ ρ=M.ret o):(fun ρ=>noex (τ ρ)) ρ=M.ret o:=by
 show noex (τ ρ)=_
 rw[h]
 rfl
theorem uO(lo n:Nat):gk (lo:Int) n=(List.range' lo n).map fun(k:Nat)=>D.int (k:Int):=by
 unfold gk
 rw[List.range_eq_range']
 have:∀(n a:Nat),(List.range' a n).map (fun (i:Nat)=>D.int ((lo:Int)+(i:Int)))=(List.range' (lo+a) n).map fun(k:Nat)=>D.int (k:Int):=by
  intro n
  induction n with
  |zero=>intro a;rfl
  |succ n ih=>
   intro a
   rw[List.range'_succ,List.range'_succ,List.map_cons,List.map_cons,ih (a+1)]
   rfl
 exact this n 0
theorem Gy{δ:DE}{ρ:aY}{n:Nat}(h:δ ρ=M.ret (.int (n:Int)))(hn:n≤4096):(aC δ aN ρ>>=jx)=M.ret ((List.range n).map fun(k:Nat)=>D.int (k:Int)):=by
 rw[aU h rfl,ao,lx hn,show gk 0 n=gk ((0:Nat):Int) n from rfl,uO,List.range_eq_range']
theorem IU{δ ε:DE}{ρ:aY}{i j:Nat}(h:δ ρ=M.ret (.int (i:Int)))(h2:ε ρ=M.ret (.int (j:Int)))(hi:i≤4096)(hj:j≤4096):(aC δ (aC ε aN) ρ>>=qK)=M.ret ((List.range' i (j - i)).map fun(k:Nat)=>D.int (k:Int)):=by
 rw[aU h (aU h2 rfl),ao]
 show (if (-4096≤(i:Int)∧(i:Int)≤4096)∧(-4096≤(j:Int)∧(j:Int)≤4096) then M.ret (gk (i:Int) ((j:Int) - (i:Int)).toNat) else M.stuck)=_
 rw[if_pos ⟨⟨by omega,by omega⟩,by omega,by omega⟩,show ((j:Int) - (i:Int)).toNat=j - i by omega,uO]
def cS(W r:Nat):List Cell:=(List.range W).map fun k=>(r,k)
def aH(R W:Nat):List Cell:=(List.range R).flatMap (cS W)
theorem aO{R W:Nat}{c:Cell}:c∈aH R W↔On R W c:=by
 unfold aH cS On
 simp only[List.mem_flatMap,List.mem_range,List.mem_map]
 constructor
 ·rintro⟨r,hr,k,hk,rfl⟩;exact⟨hr,hk⟩
 ·rintro⟨h1,h2⟩;exact⟨c.1,h1,c.2,h2,rfl⟩
theorem cu(R W:Nat):(aH R W).length=R*W:=by
 unfold aH
 have:∀l:List Nat,(l.flatMap (cS W)).length=l.length*W:=by
  intro l
  induction l with
  |nil=>simp
  |cons a l ih=>rw[List.flatMap_cons,List.length_append,ih,List.length_cons,Nat.succ_mul];simp[cS];omega
 rw[this,List.length_range]
theorem fT{bd:List Str}{W:Nat}(hg:Brd bd W)(r:Nat):a6 [brd bd, .int (r:Int)]=M.ret (.lst ((cS W r).map cD)):=by
 have:=hg.w8
 refine aT (aB (b9 (Gy (n:=W) (hg.len0 rfl) (by omega)) ?_ (by simp[cS,c5];omega)))
 rw[show (cS W r).map cD=((List.range W).map fun(k:Nat)=>D.int (k:Int)).map (fun e=> .tup [.int (r:Int),e]) by simp[cS,List.map_map];intro a _;rfl]
 exact fU (g:=fun e=> .tup [.int (r:Int),e]) _ fun e _=>rfl
theorem jg{bd:List Str}{W:Nat}(hg:Brd bd W):dh [brd bd]=M.ret (.lst ((aH bd.length W).map cD)):=by
 have h8:=hg.r8
 have w8:=hg.w8
 have hm:bd.length*W≤64:=Nat.mul_le_mul h8 w8
 have Jm:(List.range bd.length).flatMap (fun r=>(cS W r).map cD)=(aH bd.length W).map cD:=by
  unfold aH;rw[List.map_flatMap]
 have e:=fW (put:=putN 2) (body:=cB [2] (wy 1 (ak 2 a6 (aC (dV 0) (aC (dV 2) aN))))) (fun (k:Nat)=>D.int (k:Int)) (fun acc=>[fz (brd bd),some (.ow (.lst acc)),none]) (fun r=>(cS W r).map cD) (B:=64) (List.range bd.length) []
  (by rw[List.nil_append,Jm,List.length_map,cu];exact hm) fun r hr acc hB=>by
   refine⟨[fz (brd bd),some (.ow (.lst acc)),fz (.int (r:Int))],rfl,?_⟩
   refine(bg (ρ':=[fz (brd bd),some (.ow (.lst (acc++(cS W r).map cD))),fz (.int (r:Int))]) ?_).trans rfl
   show (a6 [brd bd, .int (r:Int)]>>=fun d=>lstM d>>=fun es=>if acc.length+es.length≤lim then M.ret (Out.nx (List.set [fz (brd bd),some (.ow (.lst acc)),fz (.int (r:Int))] 1 (some (.ow (.lst (acc++es)))))) else M.stuck)=_
   rw[fT hg,ao]
   show (if acc.length+((cS W r).map cD).length≤lim then M.ret (Out.nx [fz (brd bd),some (.ow (.lst (acc++(cS W r).map cD))),fz (.int (r:Int))]) else M.stuck)=_
   rw[if_pos (by rw[List.length_append] at hB;rw[c5];omega)]
 rw[List.nil_append,Jm] at e
 refine aT (ai (ρ':=[fz (brd bd),some (.ow (.lst [])),none]) rfl (ai (ρ':=[fz (brd bd),some (.ow (.lst ((aH bd.length W).map cD))),none]) (dE (fF (Gy (n:=bd.length) (FH rfl) (by omega)) e)) ?_))
 rfl
def eB(R W w:Nat)(c:Cell):List Cell:=
 (List.range' (c.1 - 1) (min (c.1+2) R - (c.1 - 1))).flatMap fun r=>((List.range' (c.2 - 1) (min (c.2+2) W - (c.2 - 1))).map fun k=>(r,k)).filter (mK w c)
theorem i3{R W w:Nat}(hw:Ways w){c x:Cell}:x∈eB R W w c↔On R W x∧mK w c x=true:=by
 unfold eB On
 simp only[List.mem_flatMap,List.mem_filter,List.mem_map,List.mem_range'_1]
 constructor
 ·rintro⟨r,⟨h1,h2⟩,⟨k,⟨h3,h4⟩,rfl⟩,h5⟩
  refine⟨⟨?_,?_⟩,h5⟩
  ·show r<R;omega
  ·show k<W;omega
 ·rintro⟨⟨h1,h2⟩,h5⟩
  have h6:gB c.1 x.1≤1∧gB c.2 x.2≤1:=by
   unfold mK at h5
   rcases hw with rfl | rfl
   ·rw[if_pos rfl] at h5;have:=of_decide_eq_true h5;omega
   ·rw[if_neg (by decide)] at h5;have:=of_decide_eq_true h5;omega
  unfold gB at h6
  exact⟨x.1,⟨by omega,by omega⟩,⟨x.2,⟨by omega,by omega⟩,rfl⟩,h5⟩
theorem i1(R W w:Nat)(c:Cell):(eB R W w c).length≤9:=by
 unfold eB
 rw[List.length_flatMap]
 have h:∀r,(((List.range' (c.2 - 1) (min (c.2+2) W - (c.2 - 1))).map fun k=>(r,k)).filter (mK w c)).length≤3:=fun r=>by
  refine Nat.le_trans (List.length_filter_le ..) ?_
  rw[List.length_map,List.length_range']
  omega
 have:∀(l:List Nat),(l.map fun r=>(((List.range' (c.2 - 1) (min (c.2+2) W - (c.2 - 1))).map fun k=>(r,k)).filter (mK w c)).length).sum≤3*l.length:=by
  intro l
  induction l with
  |nil=>simp
  |cons a l ih=>rw[List.map_cons,List.sum_cons,List.length_cons];have:=h a;omega
 refine Nat.le_trans (this _) ?_
 rw[List.length_range']
 omega
abbrev nc(b c w:D)(acc:List D)(x4 x5:Option Sl):aY:=[fz b,fz c,fz w,some (.ow (.lst acc)),x4,x5]
theorem fc{bd:List Str}{W w:Nat}(hg:Brd bd W)(hw:Ways w){c:Cell}(hc:On bd.length W c):a7 [brd bd,cD c, .int (w:Int)]=M.ret (.lst ((eB bd.length W w c).map cD)):=by
 have h8:=hg.r8
 have w8:=hg.w8
 obtain⟨c1,c2⟩:=hc
 have HK:∀n:Nat,vY [.int ((n:Int) - 1), .int 0]=M.ret (.int ((n - 1:Nat):Int)):=fun n=>by
  show M.ret (D.int (if (0:Int)>(n:Int) - 1 then 0 else(n:Int) - 1))=_
  congr 2
  split<;>omega
 have HM:∀n m:Nat,yY [.int ((n:Int)+2), .int (m:Int)]=M.ret (.int ((min (n+2) m:Nat):Int)):=fun n m=>by
  show M.ret (D.int (if (m:Int)<(n:Int)+2 then(m:Int) else(n:Int)+2))=_
  congr 2
  split<;>omega
 have inner:∀(r:Nat) (acc:List D),acc.length≤16→forL (putN 5) (cB [5] (fN (bN (ak 3 de (aC (dV 1) (aC (dA fv (aC (dV 4) (aC (dV 5) aN))) (aC (dV 2) aN))))) (jf 3 (dA fv (aC (dV 4) (aC (dV 5) aN)))) cC))
  ((List.range' (c.2 - 1) (min (c.2+2) W - (c.2 - 1))).map fun(k:Nat)=>D.int (k:Int)) (nc (brd bd) (cD c) (.int (w:Int)) acc (fz (.int (r:Int))) none)=
  M.ret (.nx (nc (brd bd) (cD c) (.int (w:Int)) (acc++(List.range' (c.2 - 1) (min (c.2+2) W - (c.2 - 1))).flatMap fun k=>if mK w c (r,k) then [cD (r,k)] else []) (fz (.int (r:Int))) none)):=fun r acc kS=>by
  refine fW (fun (k:Nat)=>D.int (k:Int)) (fun acc=>nc (brd bd) (cD c) (.int (w:Int)) acc (fz (.int (r:Int))) none) (fun k=>if mK w c (r,k) then [cD (r,k)] else []) (B:=64) _ acc ?_ fun k hk acc hB=>?_
  ·rw[List.length_append,List.length_flatMap]
   have:∀l:List Nat,(l.map fun k=>(if mK w c (r,k) then [cD (r,k)] else []).length).sum≤l.length:=by
    intro l
    induction l with
    |nil=>simp
    |cons a l ih=>rw[List.map_cons,List.sum_cons,List.length_cons];split<;>simp<;>omega
   have h2:=this (List.range' (c.2 - 1) (min (c.2+2) W - (c.2 - 1)))
   rw[List.length_range'] at h2
   omega
  ·refine⟨nc (brd bd) (cD c) (.int (w:Int)) acc (fz (.int (r:Int))) (fz (.int (k:Int))),rfl,?_⟩
   have ht:bN (ak 3 de (aC (dV 1) (aC (dA fv (aC (dV 4) (aC (dV 5) aN))) (aC (dV 2) aN)))) (nc (brd bd) (cD c) (.int (w:Int)) acc (fz (.int (r:Int))) (fz (.int (k:Int))))=M.ret (mK w c (r,k)):=
    nj ((aj (ds:=[cD c,cD (r,k), .int (w:Int)]) rfl rfl).trans (qU hw c (r,k)))
   cases hn:mK w c (r,k) with
   |true=>
    rw[hn] at ht
    rw[hn,if_pos rfl,List.length_append] at hB
    refine(bg (ρ':=nc (brd bd) (cD c) (.int (w:Int)) (acc++[cD (r,k)]) (fz (.int (r:Int))) (fz (.int (k:Int)))) (eC ht ?_)).trans rfl
    show (if acc.length<lim then M.ret (Out.nx (nc (brd bd) (cD c) (.int (w:Int)) (acc++[cD (r,k)]) (fz (.int (r:Int))) (fz (.int (k:Int))))) else M.stuck)=_
    rw[if_pos (by rw[c5];simp at hB;omega)]
   |false=>
    rw[hn] at ht
    refine(bg (ρ':=nc (brd bd) (cD c) (.int (w:Int)) acc (fz (.int (r:Int))) (fz (.int (k:Int)))) (c8 ht rfl)).trans ?_
    simp
    rfl
 have flt:∀r,((List.range' (c.2 - 1) (min (c.2+2) W - (c.2 - 1))).flatMap fun k=>if mK w c (r,k) then [cD (r,k)] else [])=(((List.range' (c.2 - 1) (min (c.2+2) W - (c.2 - 1))).map fun k=>(r,k)).filter (mK w c)).map cD:=fun r=>by
  generalize List.range' (c.2 - 1) (min (c.2+2) W - (c.2 - 1))=l
  induction l with
  |nil=>rfl
  |cons a l ih=>
   rw[List.flatMap_cons,ih,List.map_cons,List.filter_cons]
   cases mK w c (r,a)<;>rfl
 have tot:(List.range' (c.1 - 1) (min (c.1+2) bd.length - (c.1 - 1))).flatMap (fun r=>(((List.range' (c.2 - 1) (min (c.2+2) W - (c.2 - 1))).map fun k=>(r,k)).filter (mK w c)).map cD)=(eB bd.length W w c).map cD:=by
  unfold eB;rw[List.map_flatMap]
 have outer:=fW (put:=putN 4) (body:=cB [4,5] (er (putN 5) (fun ρ=>(aC (dA vY (aC (d2 mq (d2 bw (dV 1) (dC (.int 1))) (dC (.int 1))) (aC (dC (.int 0)) aN))) (aC (dA yY (aC (d2 c0 (d2 bw (dV 1) (dC (.int 1))) (dC (.int 2))) (aC (dA ba (aC (d2 bw (dV 0) (dC (.int 0))) aN)) aN))) aN)) ρ>>=qK) (cB [5] (fN (bN (ak 3 de (aC (dV 1) (aC (dA fv (aC (dV 4) (aC (dV 5) aN))) (aC (dV 2) aN))))) (jf 3 (dA fv (aC (dV 4) (aC (dV 5) aN)))) cC))))
  (fun (k:Nat)=>D.int (k:Int)) (fun acc=>nc (brd bd) (cD c) (.int (w:Int)) acc none none) (fun r=>(((List.range' (c.2 - 1) (min (c.2+2) W - (c.2 - 1))).map fun k=>(r,k)).filter (mK w c)).map cD) (B:=16) (List.range' (c.1 - 1) (min (c.1+2) bd.length - (c.1 - 1))) []
  (by rw[List.nil_append,tot,List.length_map];have:=i1 bd.length W w c;omega) fun r hr acc hB=>by
   refine⟨nc (brd bd) (cD c) (.int (w:Int)) acc (fz (.int (r:Int))) none,rfl,?_⟩
   have e:=inner r acc (by rw[List.length_append] at hB;omega)
   rw[flt r] at e
   refine(bg (fF (IU (i:=c.2 - 1) (j:=min (c.2+2) W) ?_ ?_ (by omega) (by omega)) e)).trans rfl
   ·exact(b8 (xs:=[.int ((c.2:Int) - 1), .int 0]) rfl).trans (HK c.2)
   ·refine(b8 (xs:=[.int ((c.2:Int)+2), .int (W:Int)]) ?_).trans (HM c.2 W)
    exact aU (show d2 c0 (d2 bw (dV 1) (dC (.int 1))) (dC (.int 2)) (nc (brd bd) (cD c) (.int (w:Int)) acc (fz (.int (r:Int))) none)=M.ret (.int ((c.2:Int)+2)) from rfl) (aU (hg.len0 rfl) rfl)
 rw[List.nil_append,tot] at outer
 refine aT (ai (ρ':=nc (brd bd) (cD c) (.int (w:Int)) [] none none) rfl (ai (ρ':=nc (brd bd) (cD c) (.int (w:Int)) ((eB bd.length W w c).map cD) none none) (dE (fF (IU (i:=c.1 - 1) (j:=min (c.1+2) bd.length) ?_ ?_ (by omega) (by omega)) outer)) ?_))
 ·exact(b8 (xs:=[.int ((c.1:Int) - 1), .int 0]) rfl).trans (HK c.1)
 ·refine(b8 (xs:=[.int ((c.1:Int)+2), .int (bd.length:Int)]) ?_).trans (HM c.1 bd.length)
  exact aU (show d2 c0 (d2 bw (dV 1) (dC (.int 0))) (dC (.int 2)) (nc (brd bd) (cD c) (.int (w:Int)) [] none none)=M.ret (.int ((c.1:Int)+2)) from rfl) (aU (FH rfl) rfl)
 ·rfl
def aJ(bd:List Str)(W w:Nat)(c:Cell):List Cell:=(eB bd.length W w c).filter fun x=>decide (lt bd x=lt bd c)
theorem bz{bd:List Str}{W w:Nat}(hw:Ways w){c x:Cell}:x∈aJ bd W w c↔On bd.length W x∧mK w c x=true∧lt bd x=lt bd c:=by
 unfold aJ
 rw[List.mem_filter,i3 hw,decide_eq_true_eq,and_assoc]
theorem yW(bd:List Str)(W w:Nat)(c:Cell):(aJ bd W w c).length≤9:=Nat.le_trans (List.length_filter_le ..) (i1 ..)
theorem eM{α:Type}{f:D→M (Option D)}(enc:α→D)(p:α→Bool):∀(xs:List α),(∀x∈xs,f (enc x)=M.ret (if p x then some (enc x) else none))→dg f (xs.map enc)=M.ret ((xs.filter p).map enc)
 |[],_=>rfl
 |x::xs,h=>by
  rw[List.map_cons,eU,h x (List.mem_cons_self ..),ao,eM enc p xs fun y hy=>h y (List.mem_cons_of_mem _ hy),List.filter_cons]
  cases p x<;>rfl
theorem n0{bd:List Str}{W w:Nat}(hg:Brd bd W)(hw:Ways w){c:Cell}(hc:On bd.length W c):cq [brd bd,cD c, .int (w:Int)]=M.ret (.lst ((aJ bd W w c).map cD)):=by
 refine aT (ai (ρ':=[fz (brd bd),fz (cD c),fz (.int (w:Int)),fz (sg (lt bd c))]) ((aL (d:=sg (lt bd c)) ((aj (ds:=[brd bd,cD c]) rfl rfl).trans (dZ hg hc))).trans rfl) (aB ?_))
 refine b9 (ds:=(eB bd.length W w c).map cD) ?_ (eM cD _ _ fun x hx=>?_) (by rw[List.length_map,c5];exact Nat.le_trans (yW bd W w c) (by decide))
 ·show (ak 3 a7 _ _>>=lstM)=_
  have e:ak 3 a7 (aC (dV 0) (aC (dV 1) (aC (dV 2) aN))) [fz (brd bd),fz (cD c),fz (.int (w:Int)),fz (sg (lt bd c))]=M.ret (.lst ((eB bd.length W w c).map cD)):=fc hg hw hc
  rw[e]
  rfl
 ·have NR:=(i3 hw).mp hx
  rw[m9]
  have e:cf (d2 nH (ak 2 aW (aC (dV 1) (aC (dV 0) aN))) (dV 4)) (fz (cD x)::[fz (brd bd),fz (cD c),fz (.int (w:Int)),fz (sg (lt bd c))])=M.ret (decide (lt bd x=lt bd c)):=by
   refine fj ?_
   exact(aP (x:=sg (lt bd x)) (y:=sg (lt bd c)) ((aj (ds:=[brd bd,cD x]) rfl rfl).trans (dZ hg NR.1)) rfl).trans (Hm _ _)
  rw[e,ao]
  cases decide (lt bd x=lt bd c)<;>rfl
end K1
namespace K1
section
variable{α:Type}[DecidableEq α]
structure Bk (α:Type) where
 ks:List α
 ps:List (Option α)
 fu:List α
def cj(c:α)(s:Bk α)(x:α):Bk α:=if x∈s.ks then s else⟨s.ks++[x],s.ps++[some c],s.fu++[x]⟩
variable(nb:α→List α)
def fo(s:Bk α)(c:α):Bk α:=(nb c).foldl (cj c) s
def bC(s:Bk α)(ring:List α):Bk α:=ring.foldl (fo nb) s
def Rb(a:α):Nat→α→Prop
 |0,x=>x=a
 |k+1,x=>Rb a k x∨∃y,Rb a k y∧x∈nb y
variable{nb}{a:α}
theorem Rb.mono{i j:Nat}{x:α}(h:i≤j)(r:Rb nb a i x):Rb nb a j x:=by
 induction h with
 |refl=>exact r
 |step _ ih=>exact .inl ih
structure Grown (P:α→α→Prop) (s t:Bk α):Prop where
 ex:∃fs:List (α×α),t.ks=s.ks++fs.map (·.1)∧t.ps=s.ps++fs.map (fun p=>some p.2)∧t.fu=s.fu++fs.map (·.1)∧(∀p∈fs,P p.2 p.1)
 nd:s.ks.Nodup→t.ks.Nodup
theorem Grown.refl{P:α→α→Prop}(s:Bk α):Grown P s s:=⟨⟨[],by simp,by simp,by simp,fun _ h=>by cases h⟩,id⟩
theorem Grown.trans{P:α→α→Prop}{s t u:Bk α}(h1:Grown P s t)(h2:Grown P t u):Grown P s u:=by
 obtain⟨fs,a1,a2,a3,a4⟩:=h1.ex
 obtain⟨gs,b1,b2,b3,b4⟩:=h2.ex
 refine⟨⟨fs++gs,by rw[b1,a1];simp,by rw[b2,a2];simp,by rw[b3,a3];simp,fun p hp=>?_⟩,fun h=>h2.nd (h1.nd h)⟩
 rcases List.mem_append.mp hp with h | h
 ·exact a4 p h
 ·exact b4 p h
theorem tf{P:α→α→Prop}{c x:α}(s:Bk α)(h:P c x):Grown P s (cj c s x):=by
 unfold cj
 split
 ·exact Grown.refl s
 ·rename_i hx
  refine⟨⟨[(x,c)],rfl,rfl,rfl,fun p hp=>?_⟩,fun hn=>?_⟩
  ·have:p=(x,c):=by simpa using hp
   subst this;exact h
  ·refine List.nodup_append.mpr ⟨hn,by simp,fun y hy z hz e=>?_⟩
   have hz:z=x:=by simpa using hz
   rw[e,hz] at hy
   exact hx hy
theorem pS{c x y:α}(s:Bk α):y∈(cj c s x).ks↔y∈s.ks∨y=x:=by
 unfold cj
 split
 ·rename_i hx
  exact⟨.inl,fun h=>h.elim id fun e=>by rw[e];exact hx⟩
 ·simp
theorem foldStep{P:α→α→Prop}{c:α}:∀(l:List α) (s:Bk α),(∀x∈l,P c x)→Grown P s (l.foldl (cj c) s)∧∀y,y∈(l.foldl (cj c) s).ks↔y∈s.ks∨y∈l
 |[],s,_=>⟨Grown.refl s,fun y=>by simp⟩
 |x::l,s,h=>by
  obtain⟨h1,h2⟩:=foldStep l (cj c s x) fun y hy=>h y (List.mem_cons_of_mem _ hy)
  refine⟨(tf s (h x (List.mem_cons_self ..))).trans h1,fun y=>?_⟩
  rw[List.foldl_cons,h2 y,pS]
  simp[or_assoc]
theorem tL{P:α→α→Prop}:∀(l:List α) (s:Bk α),(∀c∈l,∀x∈nb c,P c x)→Grown P s (bC nb s l)∧∀y,y∈(bC nb s l).ks↔y∈s.ks∨∃c∈l,y∈nb c
 |[],s,_=>⟨Grown.refl s,fun y=>by simp[bC]⟩
 |c::l,s,h=>by
  obtain⟨g1,m1⟩:=foldStep (P:=P) (c:=c) (nb c) s (h c (List.mem_cons_self ..))
  obtain⟨g2,m2⟩:=tL l (fo nb s c) fun c' hc=>h c' (List.mem_cons_of_mem _ hc)
  refine⟨g1.trans g2,fun y=>?_⟩
  show y∈(bC nb (fo nb s c) l).ks↔_
  rw[m2 y]
  show (y∈((nb c).foldl (cj c) s).ks∨_)↔_
  rw[m1 y]
  simp[or_assoc]
structure Rng (nb:α→List α) (a:α) (k:Nat) (ks:List α) (ps:List (Option α)) (ring:List α):Prop where
 len:ks.length=ps.length
 nd:ks.Nodup
 mem:∀x,x∈ks↔Rb nb a k x
 rg:∀x,x∈ring↔Rb nb a k x∧∀j,Rb nb a j x→k≤j
 par:∀x p,(x,some p)∈ks.zip ps→x∈nb p∧p∈ks∧∀j,Rb nb a j x→∃i,j=i+1∧Rb nb a i p
 non:∀x,(x,none)∈ks.zip ps→x=a
 sz:k≤ks.length∧(ring≠[]→k+1≤ks.length)
theorem Rng.zero(nb:α→List α)(a:α):Rng nb a 0 [a] [none] [a] where
 len:=rfl
 nd:=by simp
 mem:=fun x=>by simp[Rb]
 rg:=fun x=>by simp[Rb]
 par:=fun x p h=>by simp at h
 non:=fun x h=>by simpa using h
 sz:=⟨by simp,fun _=>by simp⟩
theorem Rng.next{k:Nat}{ks:List α}{ps:List (Option α)}{ring:List α}(h:Rng nb a k ks ps ring)(hr:ring≠[]):Rng nb a (k+1) (bC nb ⟨ks,ps,[]⟩ ring).ks (bC nb ⟨ks,ps,[]⟩ ring).ps (bC nb ⟨ks,ps,[]⟩ ring).fu:=by
 obtain⟨g,m⟩:=tL (nb:=nb) (P:=fun c x=>c∈ring∧x∈nb c) ring ⟨ks,ps,[]⟩ fun c hc x hx=>⟨hc,hx⟩
 obtain⟨fs,e1,e2,e3,e4⟩:=g.ex
 have xn:=g.nd h.nd
 have hm:∀x,x∈(bC nb ⟨ks,ps,[]⟩ ring).ks↔Rb nb a (k+1) x:=fun x=>by
  rw[m x]
  show (x∈ks∨_)↔(Rb nb a k x∨_)
  constructor
  ·rintro(q | ⟨c,hc,hx⟩)
   ·exact .inl ((h.mem x).mp q)
   ·exact .inr ⟨c,((h.rg c).mp hc).1,hx⟩
  ·rintro(q | ⟨y,hy,hx⟩)
   ·exact .inl ((h.mem x).mpr q)
   ·by_cases hk:∀j,Rb nb a j y→k≤j
    ·exact .inr ⟨y,(h.rg y).mpr ⟨hy,hk⟩,hx⟩
    ·refine .inl ((h.mem x).mpr ?_)
     obtain⟨j,hj⟩:=Classical.not_forall.mp hk
     obtain⟨Kb,Nf⟩:=Classical.not_imp.mp hj
     exact Rb.mono (i:=j+1) (by omega) (.inr ⟨y,Kb,hx⟩)
 have zy:(bC nb ⟨ks,ps,[]⟩ ring).ks=ks++fs.map (·.1):=e1
 have GS:(bC nb ⟨ks,ps,[]⟩ ring).ps=ps++fs.map (fun p=>some p.2):=e2
 have Jf:(bC nb ⟨ks,ps,[]⟩ ring).fu=fs.map (·.1):=e3
 have new:∀x,x∈fs.map (·.1)→¬Rb nb a k x:=fun x hx hk=>by
  rw[zy] at xn
  exact(List.nodup_append.mp xn).2.2 x ((h.mem x).mpr hk) x hx rfl
 have Ie:∀x,¬Rb nb a k x→∀j,Rb nb a j x→k+1≤j:=fun x hx j hj=>by
  by_cases Ng:k+1≤j
  ·exact Ng
  ·exact absurd (Rb.mono (by omega) hj) hx
 have H0:(bC nb ⟨ks,ps,[]⟩ ring).ks.zip (bC nb ⟨ks,ps,[]⟩ ring).ps=ks.zip ps++fs.map fun p=>(p.1,some p.2):=by
  rw[zy,GS,List.zip_append h.len]
  congr 1
  rw[List.zip_map']
 refine⟨?_,xn,hm,fun x=>?_,fun x p hp=>?_,fun x hx=>?_,?_⟩
 ·rw[zy,GS,List.length_append,List.length_append,List.length_map,List.length_map,h.len]
 ·rw[Jf]
  constructor
  ·intro hx
   exact⟨(hm x).mp (by rw[zy];exact List.mem_append_right _ hx),Ie x (new x hx)⟩
  ·rintro⟨h1,h2⟩
   have h3:=(hm x).mpr h1
   rw[zy] at h3
   rcases List.mem_append.mp h3 with q | q
   ·have:=h2 k ((h.mem x).mp q)
    omega
   ·exact q
 ·rw[H0] at hp
  rcases List.mem_append.mp hp with q | q
  ·obtain⟨q1,q2,q3⟩:=h.par x p q
   exact⟨q1,by rw[zy];exact List.mem_append_left _ q2,q3⟩
  ·obtain⟨f,hf,e⟩:=List.mem_map.mp q
   cases e
   obtain⟨f1,f2⟩:=e4 f hf
   have hc:=(h.rg f.2).mp f1
   refine⟨f2,by rw[zy];exact List.mem_append_left _ ((h.mem _).mpr hc.1),fun j hj=>?_⟩
   have:=Ie f.1 (new f.1 (List.mem_map.mpr ⟨f,hf,rfl⟩)) j hj
   exact⟨j - 1,by omega,Rb.mono (by omega) hc.1⟩
 ·rw[H0] at hx
  rcases List.mem_append.mp hx with q | q
  ·exact h.non x q
  ·obtain⟨f,hf,e⟩:=List.mem_map.mp q
   cases e
 ·have hs:=h.sz.2 hr
  rw[zy,List.length_append,List.length_map]
  refine⟨by omega,fun fm=>?_⟩
  have:fs≠[]:=fun z=>fm (by rw[Jf,z];rfl)
  have:=List.length_pos_iff.mpr this
  omega
theorem Rng.last{k:Nat}{ks:List α}{ps:List (Option α)}(h:Rng nb a k ks ps []):∀x,x∈ks↔∃j,Rb nb a j x:=by
 have none:∀x,¬(Rb nb a k x∧∀j,Rb nb a j x→k≤j):=fun x q=>by
  have:=(h.rg x).mpr q
  cases this
 have hk:∀x,Rb nb a k x→∃i,i<k∧Rb nb a i x:=fun x hx=>by
  by_cases q:∀j,Rb nb a j x→k≤j
  ·exact absurd ⟨hx,q⟩ (none x)
  ·obtain⟨j,hj⟩:=Classical.not_forall.mp q
   obtain⟨Kb,Nf⟩:=Classical.not_imp.mp hj
   exact⟨j,by omega,Kb⟩
 have all:∀j x,Rb nb a j x→Rb nb a k x:=by
  intro j
  induction j with
  |zero=>intro x hx;exact Rb.mono (Nat.zero_le _) hx
  |succ j ih=>
   rintro x (q | ⟨y,hy,hx⟩)
   ·exact ih x q
   ·obtain⟨i,hi,hr⟩:=hk y (ih y hy)
    exact Rb.mono (i:=i+1) (by omega) (.inr ⟨y,hr,hx⟩)
 exact fun x=>⟨fun q=>⟨k,(h.mem x).mp q⟩,fun⟨j,hj⟩=>(h.mem x).mpr (all j x hj)⟩
theorem c6{l U:List α}(hn:l.Nodup)(h:∀x∈l,x∈U):l.length≤U.length:=by
 induction l generalizing U with
 |nil=>simp
 |cons a l ih=>
  rw[List.nodup_cons] at hn
  have hl:∀x∈l,x∈U.erase a:=fun x hx=>by
   have fm:x≠a:=fun z=>hn.1 (by rw[←z];exact hx)
   exact(List.mem_erase_of_ne fm).mpr (h x (List.mem_cons_of_mem _ hx))
  have h1:=ih hn.2 hl
  have h2:=List.length_erase_of_mem (h a (List.mem_cons_self ..))
  have h3:=List.length_pos_of_mem (h a (List.mem_cons_self ..))
  rw[List.length_cons]
  omega
end
end K1
namespace K1
open PySem L2 L3
def keyOf(c:Cell):List Key:=[.inl (c.1:Int), .inl (c.2:Int)]
theorem f9{a b:Cell}(h:keyOf a=keyOf b):a=b:=by
 unfold keyOf at h
 injection h with h1 h2
 injection h1 with h1
 injection h2 with h2 _
 injection h2 with h2
 exact Prod.ext (Int.ofNat.inj h1) (Int.ofNat.inj h2)
theorem gG(c:Cell):d8 (cD c)=some (keyOf c):=rfl
theorem gp{c:Cell}:∀{ks:List Cell}{ds:List D},c∉ks→eL (ks.map keyOf) ds (keyOf c)=none
 |[],_,_=>by simp[eL]
 |k::ks,[],_=>by simp[eL]
 |k::ks,d::ds,h=>by
  rw[List.map_cons]
  unfold eL
  rw[if_neg (fun z=>h (by rw[f9 z];exact List.mem_cons_self ..))]
  exact gp fun z=>h (List.mem_cons_of_mem _ z)
theorem jc{c:Cell}:∀{ks:List Cell}{ds:List D},ks.length=ds.length→c∈ks→∃d,eL (ks.map keyOf) ds (keyOf c)=some d∧(c,d)∈ks.zip ds
 |[],_,_,h=>by cases h
 |k::ks,[],hl,_=>by simp at hl
 |k::ks,d::ds,hl,h=>by
  rw[List.map_cons]
  unfold eL
  by_cases hk:k=c
  ·subst hk
   rw[if_pos rfl]
   exact⟨d,rfl,by simp⟩
  ·rw[if_neg (fun z=>hk (f9 z))]
   have hc:c∈ks:=by
    rcases List.mem_cons.mp h with q | q
    ·exact absurd q.symm hk
    ·exact q
   obtain⟨d',e1,e2⟩:=jc (ds:=ds) (by simpa using hl) hc
   exact⟨d',e1,by simp[e2]⟩
theorem iW{neg:Bool}{ks:List Cell}{ds:List D}{c:Cell}(hl:ks.length=ds.length):eu neg (cD c) (.dct (ks.map keyOf) ds)=M.ret (.bl (if neg then !decide (c∈ks) else decide (c∈ks))):=by
 show (match (d8 (cD c)).map (eL (ks.map keyOf) ds) with | some o=>M.ret (D.bl (if neg then !o.isSome else o.isSome)) | none=>M.stuck)=_
 rw[gG]
 show M.ret (D.bl (if neg then !(eL (ks.map keyOf) ds (keyOf c)).isSome else(eL (ks.map keyOf) ds (keyOf c)).isSome))=_
 by_cases h:c∈ks
 ·obtain⟨d,e,_⟩:=jc hl h
  rw[e,decide_eq_true h];rfl
 ·rw[gp h,decide_eq_false h];rfl
theorem oQ{ks:List Cell}{ds:List D}{c:Cell}{d:D}(h:c∉ks)(hl:ds.length<lim):je (.dct (ks.map keyOf) ds) (cD c) d=some (.dct ((ks++[c]).map keyOf) (ds++[d])):=by
 show (match d8 (cD c) with | some kk=>if ds.length<lim then some (C.dct (cZ (ks.map keyOf) ds kk) (ck (ks.map keyOf) ds kk d)) else none | none=>none)=_
 rw[gG]
 show (if ds.length<lim then some (C.dct (cZ (ks.map keyOf) ds (keyOf c)) (ck (ks.map keyOf) ds (keyOf c) d)) else none)=_
 rw[if_pos hl]
 unfold cZ ck
 rw[gp h]
 simp
theorem ye{τ:DT}{ρ:aY}{b:Bool}(h:τ (xk ρ)=M.ret b):yd τ ρ=M.ret b:=by
 unfold yd
 rw[h]
 rfl
theorem Hh{δ:DE}{ρ:aY}{d:D}(h:δ (xk ρ)=M.ret d)(hf:xh d=true):Je δ ρ=M.ret d:=by
 unfold Je
 rw[h]
 show nB d=_
 unfold nB
 rw[hf]
 rfl
theorem vc{c:DT}{body:DS}{n:Nat}{ρ ρ':aY}{m:M Out}(h1:c ρ=M.ret true)(h2:body ρ=M.ret (.nx ρ'))(h3:dX c body n ρ'=m):dX c body (n+1) ρ=m:=by
 show (c ρ>>=fun b=>if b then body ρ>>=fun o=>match o with | .nx ρ'=>dX c body n ρ' | .rt d=>M.ret (.rt d) else M.ret (.nx ρ))=_
 rw[h1,ao,if_pos rfl,h2]
 exact h3
theorem vb{c:DT}{body:DS}{n:Nat}{ρ:aY}(h1:c ρ=M.ret false):dX c body (n+1) ρ=M.ret (.nx ρ):=by
 show (c ρ>>=fun b=>if b then body ρ>>=fun o=>match o with | .nx ρ'=>dX c body n ρ' | .rt d=>M.ret (.rt d) else M.ret (.nx ρ))=_
 rw[h1]
 rfl
def A_:Option Cell→D
 |none=> .non
 |some c=>cD c
abbrev zO(ks:List Cell)(ps:List (Option Cell)):C:= .dct (ks.map keyOf) (ps.map A_)
abbrev wZ(ks:List Cell)(ps:List (Option Cell)):D:= .dct (ks.map keyOf) (ps.map A_)
abbrev sb(b s w:D)(ks:List Cell)(ps:List (Option Cell))(x4 x5 x6 x7:Option Sl):aY:=[fz b,fz s,fz w,some (.ow (zO ks ps)),x4,x5,x6,x7]
structure Bok (R W:Nat) (s:Bk Cell):Prop where
 len:s.ks.length=s.ps.length
 nd:s.ks.Nodup
 on:∀x∈s.ks,On R W x
 fu:s.fu.length≤s.ks.length
theorem Bok.le{R W:Nat}{s:Bk Cell}(h:Bok R W s):s.ks.length≤R*W:=by
 rw[←cu R W]
 exact c6 h.nd fun x hx=>aO.mpr (h.on x hx)
theorem Bok.step{R W:Nat}{s:Bk Cell}(h:Bok R W s){c x:Cell}(hx:On R W x):Bok R W (cj c s x):=by
 unfold cj
 split
 ·exact h
 ·rename_i hn
  refine⟨by simp[h.len],?_,fun y hy=>?_,by simp;exact h.fu⟩
  ·refine List.nodup_append.mpr ⟨h.nd,by simp,fun y hy z hz e=>?_⟩
   have hz:z=x:=by simpa using hz
   rw[e,hz] at hy
   exact hn hy
  ·rcases List.mem_append.mp hy with q | q
   ·exact h.on y q
   ·have:y=x:=by simpa using q
    rw[this];exact hx
def GD:DS:=cB [7] (fN (yd (cf (d2 (eu true) (dV 7) (dV 3)))) (av (fG 3 (dV 7) (dV 6)) (jf 5 (dV 7))) cC)
theorem DR{bd:List Str}{W:Nat}(hg:Brd bd W){a c x:Cell}{w:D}{r:Option Sl}{s:Bk Cell}(h:Bok bd.length W s):
 GD (sb (brd bd) (cD a) w s.ks s.ps r (some (.ow (.lst (s.fu.map cD)))) (fz (cD c)) (fz (cD x)))=M.ret (.nx (sb (brd bd) (cD a) w (cj c s x).ks (cj c s x).ps r (some (.ow (.lst ((cj c s x).fu.map cD)))) (fz (cD c)) none)):=by
 have hle:=h.le
 have hm:bd.length*W≤64:=Nat.mul_le_mul hg.r8 hg.w8
 have ht:yd (cf (d2 (eu true) (dV 7) (dV 3))) (sb (brd bd) (cD a) w s.ks s.ps r (some (.ow (.lst (s.fu.map cD)))) (fz (cD c)) (fz (cD x)))=M.ret (!decide (x∈s.ks)):=
  ye (fj ((aP (x:=cD x) (y:=wZ s.ks s.ps) rfl rfl).trans (iW (neg:=true) (by rw[List.length_map];exact h.len))))
 by_cases hx:x∈s.ks
 ·rw[decide_eq_true hx] at ht
  have e:cj c s x=s:=if_pos hx
  rw[e]
  exact(bg (c8 ht rfl)).trans rfl
 ·rw[decide_eq_false hx] at ht
  have e:cj c s x=⟨s.ks++[x],s.ps++[some c],s.fu++[x]⟩:=if_neg hx
  rw[e]
  refine(bg (ρ':=sb (brd bd) (cD a) w (s.ks++[x]) (s.ps++[some c]) r (some (.ow (.lst ((s.fu++[x]).map cD)))) (fz (cD c)) (fz (cD x))) (eC ht (ai (ρ':=sb (brd bd) (cD a) w (s.ks++[x]) (s.ps++[some c]) r (some (.ow (.lst (s.fu.map cD)))) (fz (cD c)) (fz (cD x))) ?_ ?_))).trans rfl
  ·show (match je (zO s.ks s.ps) (cD x) (cD c) with | some c'=>M.ret (Out.nx (List.set (sb (brd bd) (cD a) w s.ks s.ps r (some (.ow (.lst (s.fu.map cD)))) (fz (cD c)) (fz (cD x))) 3 (some (.ow c')))) | none=>M.stuck)=_
   rw[oQ hx (by rw[List.length_map,←h.len,c5];omega)]
   rw[show s.ps.map A_++[cD c]=(s.ps++[some c]).map A_ by simp[A_]]
   rfl
  ·show (if (s.fu.map cD).length<lim then M.ret (Out.nx (sb (brd bd) (cD a) w (s.ks++[x]) (s.ps++[some c]) r (some (.ow (.lst (s.fu.map cD++[cD x])))) (fz (cD c)) (fz (cD x)))) else M.stuck)=_
   have:=h.fu
   rw[if_pos (by rw[List.length_map,c5];omega)]
   rw[show s.fu.map cD++[cD x]=(s.fu++[x]).map cD by simp]
def GC:DS:=cB [6,7] (er (putN 7) (cO (ak 3 cq (aC (dV 0) (aC (dV 6) (aC (dV 2) aN))))) GD)
theorem yb{bd:List Str}{W w:Nat}(hg:Brd bd W)(hw:Ways w){a c:Cell}(hc:On bd.length W c){r:Option Sl}{s:Bk Cell}(h:Bok bd.length W s):
 Bok bd.length W (fo (aJ bd W w) s c)∧GC (sb (brd bd) (cD a) (.int (w:Int)) s.ks s.ps r (some (.ow (.lst (s.fu.map cD)))) (fz (cD c)) none)=
  M.ret (.nx (sb (brd bd) (cD a) (.int (w:Int)) (fo (aJ bd W w) s c).ks (fo (aJ bd W w) s c).ps r (some (.ow (.lst ((fo (aJ bd W w) s c).fu.map cD)))) none none)):=by
 obtain⟨h1,e⟩:=iV (put:=putN 7) (body:=GD) cD (fun s:Bk Cell=>sb (brd bd) (cD a) (.int (w:Int)) s.ks s.ps r (some (.ow (.lst (s.fu.map cD)))) (fz (cD c)) none) (cj c) (Bok bd.length W) (aJ bd W w c) s h fun s hs x hx=>
  ⟨hs.step ((bz hw).mp hx).1,_,rfl,DR hg hs⟩
 refine⟨h1,(bg (fF ?_ e)).trans rfl⟩
 show (ak 3 cq (aC (dV 0) (aC (dV 6) (aC (dV 2) aN))) (sb (brd bd) (cD a) (.int (w:Int)) s.ks s.ps r (some (.ow (.lst (s.fu.map cD)))) (fz (cD c)) none)>>=lstM)=_
 have e2:ak 3 cq (aC (dV 0) (aC (dV 6) (aC (dV 2) aN))) (sb (brd bd) (cD a) (.int (w:Int)) s.ks s.ps r (some (.ow (.lst (s.fu.map cD)))) (fz (cD c)) none)=M.ret (.lst ((aJ bd W w c).map cD)):=n0 hg hw hc
 rw[e2]
 rfl
def IX:DS:=cB [5,6,7] (av (oT 5) (av (er (putN 6) (cO (dV 4)) GC) (vr 5 (bB 4 (dV 5)))))
theorem DQ{bd:List Str}{W w:Nat}(hg:Brd bd W)(hw:Ways w){a:Cell}{ring:List Cell}(hr:∀c∈ring,On bd.length W c){s:Bk Cell}(h:Bok bd.length W s)(hf:s.fu=[]):
 Bok bd.length W (bC (aJ bd W w) s ring)∧IX (sb (brd bd) (cD a) (.int (w:Int)) s.ks s.ps (fz (.lst (ring.map cD))) none none none)=
  M.ret (.nx (sb (brd bd) (cD a) (.int (w:Int)) (bC (aJ bd W w) s ring).ks (bC (aJ bd W w) s ring).ps (fz (.lst ((bC (aJ bd W w) s ring).fu.map cD))) none none none)):=by
 obtain⟨h1,e⟩:=iV (put:=putN 6) (body:=GC) cD (fun s:Bk Cell=>sb (brd bd) (cD a) (.int (w:Int)) s.ks s.ps (fz (.lst (ring.map cD))) (some (.ow (.lst (s.fu.map cD)))) none none) (fo (aJ bd W w)) (Bok bd.length W) ring s h fun s hs c hc=>
  ⟨(yb (a:=a) (r:=fz (.lst (ring.map cD))) hg hw (hr c hc) hs).1,_,rfl,(yb hg hw (hr c hc) hs).2⟩
 refine⟨h1,(bg (ρ':=sb (brd bd) (cD a) (.int (w:Int)) (bC (aJ bd W w) s ring).ks (bC (aJ bd W w) s ring).ps (fz (.lst ((bC (aJ bd W w) s ring).fu.map cD))) (fz (.lst ((bC (aJ bd W w) s ring).fu.map cD))) none none) ?_).trans rfl⟩
 refine ai (ρ':=sb (brd bd) (cD a) (.int (w:Int)) s.ks s.ps (fz (.lst (ring.map cD))) (some (.ow (.lst []))) none none) rfl (ai (ρ':=sb (brd bd) (cD a) (.int (w:Int)) (bC (aJ bd W w) s ring).ks (bC (aJ bd W w) s ring).ps (fz (.lst (ring.map cD))) (some (.ow (.lst ((bC (aJ bd W w) s ring).fu.map cD)))) none none) ?_ rfl)
 rw[hf] at e
 exact fF rfl e
theorem uR{bd:List Str}{W w:Nat}(hg:Brd bd W)(hw:Ways w){a:Cell}(ha:On bd.length W a):∀(fuel k:Nat) (ks:List Cell) (ps:List (Option Cell)) (ring:List Cell),bd.length*W+2≤fuel+k→Rng (aJ bd W w) a k ks ps ring→(∀x∈ks,On bd.length W x)→
 ∃k' ks' EB,Rng (aJ bd W w) a k' ks' EB []∧(∀x∈ks',On bd.length W x)∧dX (bN (dV 4)) IX fuel (sb (brd bd) (cD a) (.int (w:Int)) ks ps (fz (.lst (ring.map cD))) none none none)=M.ret (.nx (sb (brd bd) (cD a) (.int (w:Int)) ks' EB (fz (.lst [])) none none none))
 |0,k,ks,ps,ring,hf,hR,eO=>by
  have h1:ks.length≤bd.length*W:=by
   rw[←cu bd.length W]
   exact c6 hR.nd fun x hx=>aO.mpr (eO x hx)
  have:=hR.sz.1
  omega
 |fuel+1,k,ks,ps,[],hf,hR,eO=>⟨k,ks,ps,hR,eO,vb rfl⟩
 |fuel+1,k,ks,ps,c::ring,hf,hR,eO=>by
  have fm:c::ring≠[]:=by simp
  have hN:=hR.next fm
  have HU:∀x∈c::ring,On bd.length W x:=fun x hx=>eO x ((hR.mem x).mpr ((hR.rg x).mp hx).1)
  obtain⟨hb,e⟩:=DQ (a:=a) hg hw HU (s:=⟨ks,ps,[]⟩) ⟨hR.len,hR.nd,eO,Nat.zero_le _⟩ rfl
  obtain⟨k',ks',EB,q1,q2,q3⟩:=uR hg hw ha fuel (k+1) _ _ _ (by omega) hN hb.on
  exact⟨k',ks',EB,q1,q2,vc rfl e q3⟩
theorem iL{bd:List Str}{W w:Nat}(hg:Brd bd W)(hw:Ways w){a:Cell}(ha:On bd.length W a):
 ∃k ks ps,Rng (aJ bd W w) a k ks ps []∧(∀x∈ks,On bd.length W x)∧aR [brd bd,cD a, .int (w:Int)]=M.ret (wZ ks ps):=by
 have hm:bd.length*W≤64:=Nat.mul_le_mul hg.r8 hg.w8
 obtain⟨k,ks,ps,h1,h2,h3⟩:=uR hg hw ha lim 0 [a] [none] [a] (by rw[c5];omega) (Rng.zero _ _) (fun x hx=>(show x=a by simpa using hx)▸ha)
 refine⟨k,ks,ps,h1,h2,aT (ai (ρ':=[fz (brd bd),fz (cD a),fz (.int (w:Int)),some (.ow (zO [a] [none])),none,none,none,none]) rfl (ai (ρ':=sb (brd bd) (cD a) (.int (w:Int)) [a] [none] (fz (.lst [cD a])) none none none) rfl (ai (ρ':=sb (brd bd) (cD a) (.int (w:Int)) ks ps (fz (.lst [])) none none none) (dE h3) rfl)))⟩
def sZ{α:Type}[DecidableEq α](n:Nat)(enc:α→D):Prop:=∀k x y,kM (n+k) (enc x) (enc y)=some (decide (x=y))
theorem xb(n:Nat)(i j:Int):kM n (.int i) (.int j)=some (i==j):=by cases n<;>rfl
theorem xc{α:Type}[DecidableEq α]{enc:α→D}{f:D→D→Option Bool}(h:∀x y,f (enc x) (enc y)=some (decide (x=y))):∀(xs ys:List α),nz f (xs.map enc) (ys.map enc)=some (decide (xs=ys))
 |[],[]=>rfl
 |[],_::_=>by simp[nz]
 |_::_,[]=>by simp[nz]
 |x::xs,y::ys=>by
  rw[List.map_cons,List.map_cons]
  show (match f (enc x) (enc y),nz f (xs.map enc) (ys.map enc) with | some b,some r=>some (b&&r) | _,_=>none)=_
  rw[h,xc h xs ys]
  show some (decide (x=y)&&decide (xs=ys))=_
  congr 1
  by_cases h1:x=y<;>by_cases h2:xs=ys<;>simp[h1,h2]
theorem z_:sZ 1 cD:=fun k a b=>by
 rw[Nat.add_comm]
 show (match kM k (.int (a.1:Int)) (.int (b.1:Int)),nz (kM k) [.int (a.2:Int)] [.int (b.2:Int)] with | some b,some r=>some (b&&r) | _,_=>none)=_
 rw[xb]
 show (match some ((a.1:Int)==(b.1:Int)),(match kM k (.int (a.2:Int)) (.int (b.2:Int)),nz (kM k) [] [] with | some b,some r=>some (b&&r) | _,_=>none) with | some b,some r=>some (b&&r) | _,_=>none)=_
 rw[xb]
 show some (((a.1:Int)==(b.1:Int))&&(((a.2:Int)==(b.2:Int))&&true))=_
 rw[jr,jr,Bool.and_true]
 congr 1
 obtain⟨a1,a2⟩:=a
 obtain⟨b1,b2⟩:=b
 by_cases h1:a1=b1<;>by_cases h2:a2=b2<;>simp[h1,h2]
theorem CG{α:Type}[DecidableEq α]{enc:α→D}{n:Nat}(h:sZ n enc):sZ (n+1) (fun l:List α=> .lst (l.map enc)):=fun k x y=>by
 rw[show n+1+k=(n+k)+1 by omega]
 exact xc (h k) x y
theorem JP{α:Type}[DecidableEq α]{enc:α→D}{n:Nat}(h:sZ n enc)(hn:n≤6)(x y:α):nH (enc x) (enc y)=M.ret (.bl (decide (x=y))):=by
 have:=h (6 - n) x y
 rw[show n+(6 - n)=6 by omega] at this
 unfold nH
 rw[this]
theorem Aa{α:Type}[DecidableEq α]{enc:α→D}{n:Nat}(h:sZ n enc)(hn:n≤6)(x y:α):kR (enc x) (enc y)=M.ret (.bl (!decide (x=y))):=by
 have:=h (6 - n) x y
 rw[show n+(6 - n)=6 by omega] at this
 unfold kR
 rw[this]
abbrev cL(l:List Cell):D:= .lst (l.map cD)
theorem Ih(a b:Cell):kR (cD a) (cD b)=M.ret (.bl (!decide (a=b))):=Aa z_ (by decide) a b
theorem Ii(a b:List Cell):kR (cL a) (cL b)=M.ret (.bl (!decide (a=b))):=Aa (CG z_) (by decide) a b
def ic(c:Cell):List Int:=[(c.1:Int),(c.2:Int)]
def zZ(a b:Cell):Bool:=if a.1=b.1 then decide (a.2<b.2) else decide (a.1<b.1)
def CS(k:Cell):List Cell→List Cell
 |[]=>[k]
 |x::r=>if zZ k x then k::x::r else x::CS k r
def iI:List Cell→List Cell
 |[]=>[]
 |k::r=>CS k (iI r)
theorem vX(a b:Cell):dz (ic a) (ic b)=zZ a b:=by
 show (if (a.1:Int)=(b.1:Int) then(if (a.2:Int)=(b.2:Int) then false else decide ((a.2:Int)<(b.2:Int))) else decide ((a.1:Int)<(b.1:Int)))=_
 unfold zZ
 by_cases h:a.1=b.1
 ·rw[if_pos h,if_pos (by omega)]
  by_cases h2:a.2=b.2
  ·rw[if_pos (by omega),h2];simp
  ·rw[if_neg (by omega)]
   by_cases h3:a.2<b.2
   ·rw[decide_eq_true h3,decide_eq_true (by omega)]
   ·rw[decide_eq_false h3,decide_eq_false (by omega)]
 ·rw[if_neg h,if_neg (by omega)]
  by_cases h3:a.1<b.1
  ·rw[decide_eq_true h3,decide_eq_true (by omega)]
  ·rw[decide_eq_false h3,decide_eq_false (by omega)]
theorem Ax(k:Cell):∀l:List Cell,insI (ic k) (l.map ic)=(CS k l).map ic
 |[]=>rfl
 |x::r=>by
  rw[List.map_cons]
  unfold insI CS
  rw[vX]
  cases zZ k x with
  |true=>rfl
  |false=>rw[if_neg (by decide),if_neg (by decide),List.map_cons,Ax k r]
theorem jb:∀l:List Cell,sortI (l.map ic)=(iI l).map ic
 |[]=>rfl
 |k::r=>by
  rw[List.map_cons]
  unfold sortI iI
  rw[jb r,Ax]
theorem rD{a b:Cell}(h:ic a=ic b):a=b:=by
 unfold ic at h
 injection h with h1 h2
 injection h2 with h2 _
 exact Prod.ext (Int.ofNat.inj h1) (Int.ofNat.inj h2)
theorem i4{x:Cell}{l:List Cell}:x∈iI l↔x∈l:=by
 have h:=cY (x:=ic x) (l:=l.map ic)
 rw[jb] at h
 constructor
 ·intro hx
  obtain⟨y,hy,e⟩:=List.mem_map.mp (h.mp (List.mem_map.mpr ⟨x,hx,rfl⟩))
  rw[←rD e];exact hy
 ·intro hx
  obtain⟨y,hy,e⟩:=List.mem_map.mp (h.mpr (List.mem_map.mpr ⟨x,hx,rfl⟩))
  rw[←rD e];exact hy
def RiseC(l:List Cell):Prop:=l.Pairwise fun a b=>zZ a b=true
theorem su{l:List Cell}:vw (l.map ic)↔RiseC l:=by
 unfold vw RiseC
 rw[List.pairwise_map]
 constructor<;>intro h<;>refine List.Pairwise.imp ?_ h<;>intro a b q
 ·rw[←vX];exact q
 ·rw[vX];exact q
theorem ui{l:List Cell}(h:l.Nodup):(l.map ic).Nodup:=by
 unfold List.Nodup at h⊢
 rw[List.pairwise_map]
 exact List.Pairwise.imp (fun h z=>h (rD z)) h
theorem gW{l:List Cell}(h:l.Nodup):RiseC (iI l):=by
 have:=fi (ui h)
 rw[jb] at this
 exact su.mp this
theorem eQ{a b:List Cell}(ha:RiseC a)(hb:RiseC b)(h:∀x,x∈a↔x∈b):a=b:=by
 have e:=kC (su.mpr ha) (su.mpr hb) fun x=>by
  constructor
  ·intro hx
   obtain⟨y,hy,rfl⟩:=List.mem_map.mp hx
   exact List.mem_map.mpr ⟨y,(h y).mp hy,rfl⟩
  ·intro hx
   obtain⟨y,hy,rfl⟩:=List.mem_map.mp hx
   exact List.mem_map.mpr ⟨y,(h y).mpr hy,rfl⟩
 have inj:∀(a b:List Cell),a.map ic=b.map ic→a=b:=by
  intro a
  induction a with
  |nil=>intro b h;cases b with
   |nil=>rfl
   |cons=>simp at h
  |cons x a ih=>intro b h;cases b with
   |nil=>simp at h
   |cons y b=>
    rw[List.map_cons,List.map_cons] at h
    injection h with h1 h2
    rw[rD h1,ih b h2]
 exact inj a b e
theorem RiseC.nodup{l:List Cell}(h:RiseC l):l.Nodup:=by
 refine List.Pairwise.imp ?_ h
 intro a b q z
 subst z
 unfold zZ at q
 rw[if_pos rfl] at q
 have:=of_decide_eq_true q
 omega
theorem iY:∀ks:List Cell,dS (ks.map keyOf)=some (ks.map ic)
 |[]=>rfl
 |k::r=>by
  show (match qf (keyOf k),dS (r.map keyOf) with | some x,some xs=>some (x::xs) | _,_=>none)=_
  rw[iY r]
  rfl
theorem A2{ks:List Cell}(h:ks.Nodup)(hl:ks.length<64):cR (ks.map ic)=true:=by
 unfold cR
 rw[List.length_map,decide_eq_true (ui h),decide_eq_true hl]
 simp
 intro a b _ z
 cases z
theorem u3{ks:List Cell}{ds:List D}(h:ks.Nodup)(hl:ks.length<64):iJ [.dct (ks.map keyOf) ds]=M.ret (cL (iI ks)):=by
 show (match dS (ks.map keyOf) with | some ks=>if cR ks&&ks.all (fun k=>decide (k.length≤lim)) then M.ret (D.lst ((sortI ks).map tupI)) else M.stuck | none=>M.stuck)=_
 rw[iY]
 show (if cR (ks.map ic)&&(ks.map ic).all (fun k=>decide (k.length≤lim)) then M.ret (D.lst ((sortI (ks.map ic)).map tupI)) else M.stuck)=_
 rw[A2 h hl]
 have:(ks.map ic).all (fun k=>decide (k.length≤lim))=true:=by
  simp
  intro a b _
  show 2≤lim
  decide
 rw[this,Bool.and_true,if_pos rfl,jb,List.map_map]
 rfl
def Cn(bd:List Str)(W w:Nat)(a b:Cell):Prop:=∃j,Rb (aJ bd W w) a j b
theorem Cn.refl{bd:List Str}{W w:Nat}{a:Cell}:Cn bd W w a a:=⟨0,rfl⟩
theorem gH{bd:List Str}{W w:Nat}(hw:Ways w){a b:Cell}(ha:On bd.length W a)(h:b∈aJ bd W w a):a∈aJ bd W w b:=by
 obtain⟨h1,h2,h3⟩:=(bz hw).mp h
 exact(bz hw).mpr ⟨ha,by rw[uk];exact h2,h3.symm⟩
theorem BE{bd:List Str}{W w:Nat}(hw:Ways w){a b:Cell}(ha:On bd.length W a):∀{j:Nat},Rb (aJ bd W w) a j b→On bd.length W b
 |0,h=>by rw[show b=a from h];exact ha
 |j+1, .inl h=>BE hw ha h
 |j+1, .inr ⟨y,_,hy⟩=>((bz hw).mp hy).1
theorem oR{bd:List Str}{W w:Nat}{a c b:Cell}(h:c∈aJ bd W w a):∀{j:Nat},Rb (aJ bd W w) c j b→Rb (aJ bd W w) a (j+1) b
 |0,q=> .inr ⟨a,rfl,by rw[show b=c from q];exact h⟩
 |j+1, .inl q=> .inl (oR h q)
 |j+1, .inr ⟨y,q,hy⟩=> .inr ⟨y,oR h q,hy⟩
theorem sj{bd:List Str}{W w:Nat}(hw:Ways w){a b:Cell}(ha:On bd.length W a):∀{j:Nat},Rb (aJ bd W w) a j b→Rb (aJ bd W w) b j a
 |0,h=>show a=b from(show b=a from h).symm
 |j+1, .inl h=> .inl (sj hw ha h)
 |j+1, .inr ⟨y,q,hy⟩=>oR (gH hw (BE hw ha q) hy) (sj hw ha q)
theorem oS{bd:List Str}{W w:Nat}{a b c:Cell}{i:Nat}(h:Rb (aJ bd W w) a i b):∀{j:Nat},Rb (aJ bd W w) b j c→Rb (aJ bd W w) a (i+j) c
 |0,q=>by rw[show c=b from q];exact h
 |j+1, .inl q=> .inl (oS h q)
 |j+1, .inr ⟨y,q,hy⟩=> .inr ⟨y,oS h q,hy⟩
theorem lj{bd:List Str}{W w:Nat}(hw:Ways w){a b:Cell}:∀{j:Nat},Rb (aJ bd W w) a j b→lt bd b=lt bd a
 |0,h=>by rw[show b=a from h]
 |j+1, .inl h=>lj hw h
 |j+1, .inr ⟨y,q,hy⟩=>((bz hw).mp hy).2.2.trans (lj hw q)
section
variable{bd:List Str}{W w:Nat}{a b c:Cell}
theorem Cn.on(hw:Ways w)(ha:On bd.length W a)(h:Cn bd W w a b):On bd.length W b:=let ⟨_,q⟩:=h;BE hw ha q
theorem Cn.symm(hw:Ways w)(ha:On bd.length W a)(h:Cn bd W w a b):Cn bd W w b a:=let ⟨j,q⟩:=h;⟨j,sj hw ha q⟩
theorem Cn.trans(h:Cn bd W w a b)(h2:Cn bd W w b c):Cn bd W w a c:=let ⟨i,q⟩:=h;let ⟨j,r⟩:=h2;⟨i+j,oS q r⟩
theorem Cn.letter(hw:Ways w)(h:Cn bd W w a b):lt bd b=lt bd a:=let ⟨_,q⟩:=h;lj hw q
theorem Cn.step(h:Cn bd W w a b)(h2:c∈aJ bd W w b):Cn bd W w a c:=let ⟨j,q⟩:=h;⟨j+1, .inr ⟨b,q,h2⟩⟩
end
structure IsPatch (bd:List Str) (W w:Nat) (a:Cell) (P:List Cell):Prop where
 rise:RiseC P
 mem:∀x,x∈P↔Cn bd W w a x
theorem IsPatch.one{bd:List Str}{W w:Nat}{a:Cell}{P Q:List Cell}(h:IsPatch bd W w a P)(h2:IsPatch bd W w a Q):P=Q:=eQ h.rise h2.rise fun x=>(h.mem x).trans (h2.mem x).symm
theorem gr{bd:List Str}{W:Nat}{ks:List Cell}(hn:ks.Nodup)(eO:∀x∈ks,On bd.length W x):ks.length≤bd.length*W:=by
 rw[←cu bd.length W]
 exact c6 hn fun x hx=>aO.mpr (eO x hx)
theorem BS{bd:List Str}{W w:Nat}(hg:Brd bd W)(hs:bd.length*W<64)(hw:Ways w)(ha:On bd.length W a):∃P,IsPatch bd W w a P∧(aR [brd bd,cD a, .int (w:Int)]>>=fun d=>iJ [d])=M.ret (cL P):=by
 obtain⟨k,ks,ps,h1,h2,h3⟩:=iL hg hw ha
 refine⟨iI ks,⟨gW h1.nd,fun x=>i4.trans (h1.last x)⟩,?_⟩
 rw[h3,ao]
 exact u3 h1.nd (Nat.lt_of_le_of_lt (gr h1.nd h2) hs)
theorem r6{bd:List Str}{W w:Nat}(hg:Brd bd W)(hs:bd.length*W<64)(hw:Ways w){a:Cell}(ha:On bd.length W a):∃P,IsPatch bd W w a P∧dP [brd bd,cD a, .int (w:Int)]=M.ret (cL P):=by
 obtain⟨P,h1,h2⟩:=BS hg hs hw ha
 refine⟨P,h1,aT (ai (aX ((aj (ds:=[brd bd]) rfl rfl).trans hg.nb)) (ai (aX ((aj (ds:=[brd bd,cD a]) rfl rfl).trans (hg.nc ha))) (ai (aX ((aj (ds:=[.int (w:Int)]) rfl rfl).trans hw.nw)) (aB ?_))))⟩
 have e:(dA iJ (aC (ak 3 aR (aC (dV 0) (aC (dV 1) (aC (dV 2) aN)))) aN)) [fz (brd bd),fz (cD a),fz (.int (w:Int))]=(aR [brd bd,cD a, .int (w:Int)]>>=fun d=>iJ [d]):=by
  show ((aR [brd bd,cD a, .int (w:Int)]>>=fun x=>M.ret [x])>>=iJ)=_
  match aR [brd bd,cD a, .int (w:Int)] with
  |none=>rfl
  |some (.ok a)=>rfl
  |some (.ex n)=>rfl
 exact e.trans h2
theorem Hx:((aH 8 8).map fun c=>dN (ic c)).Nodup:=by decide+kernel
theorem qq{α β:Type}{f:α→β}:∀{l:List α},(l.map f).Nodup→∀a∈l,∀b∈l,f a=f b→a=b
 |x::l,h,a,ha,b,hb,e=>by
  rw[List.map_cons,List.nodup_cons] at h
  by_cases h1:a=x
  ·by_cases h2:b=x
   ·rw[h1,h2]
   ·have hb:b∈l:=(List.mem_cons.mp hb).resolve_left h2
    exact absurd (List.mem_map.mpr ⟨b,hb,by rw[←h1];exact e.symm⟩) h.1
  ·have ha:a∈l:=(List.mem_cons.mp ha).resolve_left h1
   by_cases h2:b=x
   ·exact absurd (List.mem_map.mpr ⟨a,ha,by rw[←h2];exact e⟩) h.1
   ·exact qq h.2 a ha b ((List.mem_cons.mp hb).resolve_left h2) e
theorem rn{R W:Nat}(hR:R≤8)(hW:W≤8){l:List Cell}(hn:l.Nodup)(eO:∀x∈l,On R W x):(l.map fun c=>dN (ic c)).Nodup:=by
 have h8:∀x∈l,x∈aH 8 8:=fun x hx=>aO.mpr ⟨by have:=(eO x hx).1;omega,by have:=(eO x hx).2;omega⟩
 rw[List.Nodup,List.pairwise_map]
 refine List.Pairwise.imp_of_mem (fun {a b} ha hb h z=>h ?_) hn
 exact qq Hx a (h8 a ha) b (h8 b hb) z
theorem nR:∀l:List Cell,eZ (l.map cD)=some (l.map ic)
 |[]=>rfl
 |c::l=>by
  show (match Et (cD c),eZ (l.map cD) with | some k,some ks=>some (k::ks) | _,_=>none)=_
  rw[nR l]
  rfl
theorem BQ{l:List Cell}(h:RiseC l):iI l=l:=eQ (gW h.nodup) h fun x=>i4
theorem DX{l:List Cell}(h:l.Nodup)(hl:l.length<64):DW [cL l]=M.ret (cL (iI l)):=by
 show (match eZ (l.map cD) with | some ks=>if cR ks then M.ret (D.lst ((sortI ks).map tupI)) else M.stuck | none=>M.stuck)=_
 rw[nR]
 refine(if_pos (A2 h hl)).trans ?_
 rw[jb,List.map_map]
 rfl
theorem wF{R W:Nat}(hR:R≤8)(hW:W≤8){l:List Cell}(h:RiseC l)(hl:l.length<64)(eO:∀x∈l,On R W x):kH (cL l)=M.ret (cL l):=by
 show (match eZ (l.map cD) with | some ks=>if cR ks=true∧(ks.map dN).Nodup then M.ret (D.lst ((sortI ks).map tupI)) else M.stuck | none=>M.stuck)=_
 rw[nR]
 refine(if_pos ⟨A2 h.nodup hl,by rw[List.map_map];exact rn hR hW h.nodup eO⟩).trans ?_
 rw[jb,BQ h,List.map_map]
 rfl
def G_(w:Nat):List Cell→Bool
 |a::b::r=>mK w a b&&G_ w (b::r)
 |_=>true
structure IsWay (bd:List Str) (W w:Nat) (a b:Cell) (p:List Cell):Prop where
 on:∀x∈p,On bd.length W x
 hd:p.head? =some a
 lst:p.getLast? =some b
 let':∀x∈p,lt bd x=lt bd a
 Oi:G_ w p=true
structure Trail (nb:Cell→List Cell) (b:Cell) (p:List Cell) (x:Cell):Prop where
 hd:p.head? =some x
 lst:p.getLast? =some b
 ch:∀l r u v,p=l++u::v::r→u∈nb v
abbrev wr(bd w a b k t:D):aY:=[fz bd,fz w,fz a,fz b,fz k,fz t]
theorem m_{α:Type}{f:D→M (Option D)}(enc:α→D)(g:α→D):∀(xs:List α),(∀x∈xs,f (enc x)=M.ret (some (g x)))→dg f (xs.map enc)=M.ret (xs.map g)
 |[],_=>rfl
 |x::xs,h=>by
  rw[List.map_cons,eU,h x (List.mem_cons_self ..),ao,m_ enc g xs fun y hy=>h y (List.mem_cons_of_mem _ hy)]
  rfl
theorem L_{ρ:aY}{i:Nat}{ds:List D}(h:ρ[i]? =some (fz (.lst ds))):cO (dV i) ρ=M.ret ds:=by
 unfold cO
 rw[rf h]
 rfl
def bM(ks:List Cell)(c:Cell):List Cell:=if c∈ks then ks else ks++[c]
def bo(l:List Cell):List Cell:=l.foldl bM []
def aG(ks:List Cell):List D:=ks.map fun _=> .bl true
theorem s9{ks:List Cell}{c x:Cell}:x∈bM ks c↔x∈ks∨x=c:=by
 unfold bM
 split
 ·rename_i h
  exact⟨.inl,fun q=>q.elim id fun e=>by rw[e];exact h⟩
 ·simp
theorem jj:∀(l ks:List Cell),(ks.Nodup→(l.foldl bM ks).Nodup)∧(∀x,x∈l.foldl bM ks↔x∈ks∨x∈l)∧(l.foldl bM ks).length≤ks.length+l.length
 |[],ks=>⟨id,fun x=>by simp,by simp⟩
 |c::l,ks=>by
  obtain⟨h1,h2,h3⟩:=jj l (bM ks c)
  refine⟨fun hn=>h1 ?_,fun x=>?_,?_⟩
  ·unfold bM
   split
   ·exact hn
   ·rename_i hc
    refine List.nodup_append.mpr ⟨hn,by simp,fun y hy z hz e=>?_⟩
    have hz:z=c:=by simpa using hz
    rw[e,hz] at hy
    exact hc hy
  ·rw[List.foldl_cons,h2 x,s9]
   simp[or_assoc]
  ·rw[List.foldl_cons,List.length_cons]
   have:(bM ks c).length≤ks.length+1:=by unfold bM;split<;>simp
   omega
theorem dj{l:List Cell}{x:Cell}:x∈bo l↔x∈l:=by
 unfold bo
 rw[(jj l []).2.1 x]
 simp
theorem ug(l:List Cell):(bo l).Nodup:=(jj l []).1 List.nodup_nil
theorem yV(l:List Cell):(bo l).length≤l.length:=by have:=(jj l []).2.2;simpa[bo] using this
theorem qJ{k:List Key}:∀{ks:List (List Key)}{l:List Cell},ks.length=l.length→lr ks (aG l) k (.bl true)=aG l
 |[],[],_=>rfl
 |k'::ks,c::l,h=>by
  show (if k'=k then D.bl true else D.bl true)::lr ks (aG l) k (.bl true)=_
  rw[qJ (by simpa using h)]
  split<;>rfl
 |[],_::_,h=>by simp at h
 |_::_,[],h=>by simp at h
theorem Bz{ks:List Cell}{c:Cell}(hl:ks.length<lim):je (.dct (ks.map keyOf) (aG ks)) (cD c) (.bl true)=some (.dct ((bM ks c).map keyOf) (aG (bM ks c))):=by
 have hlen:(aG ks).length=ks.length:=by simp[aG]
 unfold bM
 by_cases h:c∈ks
 ·rw[if_pos h]
  show (match d8 (cD c) with | some kk=>if (aG ks).length<lim then some (C.dct (cZ (ks.map keyOf) (aG ks) kk) (ck (ks.map keyOf) (aG ks) kk (.bl true))) else none | none=>none)=_
  rw[gG]
  show (if (aG ks).length<lim then some (C.dct (cZ (ks.map keyOf) (aG ks) (keyOf c)) (ck (ks.map keyOf) (aG ks) (keyOf c) (.bl true))) else none)=_
  rw[if_pos (by rw[hlen];exact hl)]
  obtain⟨d,e,_⟩:=jc (ds:=aG ks) hlen.symm h
  unfold cZ ck
  rw[e]
  show some (C.dct (ks.map keyOf) (lr (ks.map keyOf) (aG ks) (keyOf c) (.bl true)))=_
  rw[qJ (by simp)]
 ·rw[if_neg h,oQ h (by rw[hlen];exact hl)]
  simp[aG]
abbrev hZ(l:List Cell):D:= .dct ((bo l).map keyOf) (aG (bo l))
theorem iZ{l:List Cell}(hl:l.length<4000):cU [cL l]=M.ret (hZ l):=by
 have e:∀(xs ks:List Cell),ks.length+xs.length<4000→forL (putN 2) (cB [2] (fG 1 (dV 2) (dC (.bl true)))) (xs.map cD) [fz (cL l),some (.ow (.dct (ks.map keyOf) (aG ks))),none]=M.ret (.nx [fz (cL l),some (.ow (.dct ((xs.foldl bM ks).map keyOf) (aG (xs.foldl bM ks)))),none]):=by
  intro xs
  induction xs with
  |nil=>intro ks _;rfl
  |cons x xs ih=>
   intro ks hk
   rw[List.length_cons] at hk
   have hle:(bM ks x).length≤ks.length+1:=by unfold bM;split<;>simp
   refine(dQ (ρ1:=[fz (cL l),some (.ow (.dct (ks.map keyOf) (aG ks))),fz (cD x)]) (ρ2:=[fz (cL l),some (.ow (.dct ((bM ks x).map keyOf) (aG (bM ks x)))),none]) rfl ?_).trans (ih (bM ks x) (by omega))
   refine(bg (ρ':=[fz (cL l),some (.ow (.dct ((bM ks x).map keyOf) (aG (bM ks x)))),fz (cD x)]) ?_).trans rfl
   show (match je (.dct (ks.map keyOf) (aG ks)) (cD x) (.bl true) with | some c'=>M.ret (Out.nx [fz (cL l),some (.ow c'),fz (cD x)]) | none=>M.stuck)=_
   rw[Bz (by rw[c5];omega)]
 refine aT (ai (ρ':=[fz (cL l),some (.ow (.dct [] [])),none]) rfl (ai (ρ':=[fz (cL l),some (.ow (.dct ((bo l).map keyOf) (aG (bo l)))),none]) (dE (fF (ds:=l.map cD) rfl (e l [] (by simpa using hl)))) rfl))
section
variable{bd:List Str}{W w:Nat}{a b c:Cell}{p q:List Cell}
end
theorem t_{x:Cell}:∀{l:List Cell},k0 (keyOf x) (l.map keyOf)=decide (x∈l)
 |[]=>rfl
 |y::l=>by
  show (decide (keyOf y=keyOf x)||k0 (keyOf x) (l.map keyOf))=_
  rw[t_]
  by_cases h:y=x
  ·subst h;simp
  ·have h2:¬keyOf y=keyOf x:=fun z=>h (f9 z)
   rw[decide_eq_false h2,Bool.false_or,decide_eq_decide]
   constructor
   ·exact fun q=>List.mem_cons_of_mem _ q
   ·intro q
    rcases List.mem_cons.mp q with q | q
    ·exact absurd q.symm h
    ·exact q
theorem ql:∀{l:List Cell},j6 (l.map cD)=some (l.map keyOf)
 |[]=>rfl
 |y::l=>by
  show (match d8 (cD y),j6 (l.map cD) with | some k,some ks=>some (k::ks) | _,_=>none)=_
  rw[ql]
  rfl
theorem mI{neg:Bool}{x:Cell}{l:List Cell}:jF neg (cD x) (cL l)=M.ret (.bl (if neg then !decide (x∈l) else decide (x∈l))):=by
 show (match d8 (cD x),j6 (l.map cD) with | some k,some ks=>M.ret (D.bl (if neg then !k0 k ks else k0 k ks)) | _,_=>M.stuck)=_
 rw[ql,gG]
 show M.ret (D.bl (if neg then !k0 (keyOf x) (l.map keyOf) else k0 (keyOf x) (l.map keyOf)))=_
 rw[t_]
theorem nX(l:List Cell):ba [cL l]=M.ret (.int (l.length:Int)):=by
 show M.ret (D.int ((l.map cD).length:Int))=_
 rw[List.length_map]
theorem pY{bd:List Str}{W:Nat}(hg:Brd bd W):gD [brd bd]=M.ret (cL (aH bd.length W)):=
 aT (ai (aX ((aj (ds:=[brd bd]) rfl rfl).trans hg.nb)) (aB ((aj (ds:=[brd bd]) rfl rfl).trans (jg hg))))
theorem Ex(a b:Nat):kR (.int (a:Int)) (.int (b:Int))=M.ret (.bl (!(a==b))):=by
 rw[ne_int,jr]
theorem AM(a b:Nat):Ei (.int (a:Int)) (.int (b:Int))=M.ret (.bl (decide (b<a))):=by
 show M.ret (D.bl (decide ((b:Int)<(a:Int))))=_
 congr 2
 rw[decide_eq_decide]
 omega
theorem yU{R W:Nat}{δ:DE}{ρ:aY}(h:δ ρ=M.ret (cL (aH R W))):dA ba (aC δ aN) ρ=M.ret (.int ((R*W:Nat):Int)):=by
 refine(b8 (xs:=[cL (aH R W)]) (aU h rfl)).trans ?_
 rw[nX,cu]
theorem EM{a c:DE}{ρ:aY}(h1:a ρ=M.ret (.bl true)):Cy a c ρ=M.ret (.bl true):=by
 unfold Cy
 rw[h1,ao]
 rfl
def CB(ks:List Cell)(f:Cell→D):C:= .dct (ks.map keyOf) (ks.map f)
def Lo(ks:List Cell)(f:Cell→D):D:= .dct (ks.map keyOf) (ks.map f)
def fR(f:Cell→D)(x:Cell)(d:D):Cell→D:=fun y=>if y=x then d else f y
theorem mP{f:Cell→D}{x:Cell}:∀{ks:List Cell},x∈ks→eL (ks.map keyOf) (ks.map f) (keyOf x)=some (f x)
 |y::ks,h=>by
  show (if keyOf y=keyOf x then some (f y) else eL (ks.map keyOf) (ks.map f) (keyOf x))=_
  by_cases e:y=x
  ·subst e;rw[if_pos rfl]
  ·rw[if_neg (fun z=>e (f9 z))]
   rcases List.mem_cons.mp h with q | q
   ·exact absurd q.symm e
   ·exact mP q
theorem Fu{ks:List Cell}{f:Cell→D}{x:Cell}(h:x∈ks):jX (Lo ks f) (cD x)=M.ret (f x):=by
 show (match ((d8 (cD x)).map fun k=>eL (ks.map keyOf) (ks.map f) k) with | some (some v)=>M.ret v | _=>M.stuck)=_
 rw[gG]
 show (match some (eL (ks.map keyOf) (ks.map f) (keyOf x)) with | some (some v)=>M.ret v | _=>M.stuck)=_
 rw[mP h]
theorem sq{f:Cell→D}{x:Cell}{d:D}:∀{ks:List Cell},lr (ks.map keyOf) (ks.map f) (keyOf x) d=ks.map (fR f x d)
 |[]=>rfl
 |y::ks=>by
  show (if keyOf y=keyOf x then d else f y)::lr (ks.map keyOf) (ks.map f) (keyOf x) d=_
  rw[sq,List.map_cons]
  congr 1
  unfold fR
  by_cases e:y=x
  ·subst e;rw[if_pos rfl,if_pos rfl]
  ·rw[if_neg (fun z=>e (f9 z)),if_neg e]
theorem DJ{ks:List Cell}{f:Cell→D}{x:Cell}{d:D}(hl:ks.length<lim):je (CB ks f) (cD x) d=some (CB (bM ks x) (fR f x d)):=by
 show (match d8 (cD x) with | some kk=>if (ks.map f).length<lim then some (C.dct (cZ (ks.map keyOf) (ks.map f) kk) (ck (ks.map keyOf) (ks.map f) kk d)) else none | none=>none)=_
 rw[gG]
 show (if (ks.map f).length<lim then some (C.dct (cZ (ks.map keyOf) (ks.map f) (keyOf x)) (ck (ks.map keyOf) (ks.map f) (keyOf x) d)) else none)=_
 rw[if_pos (by rw[List.length_map];exact hl)]
 unfold CB bM cZ ck
 by_cases h:x∈ks
 ·rw[mP h,if_pos h]
  show some (C.dct (ks.map keyOf) (lr (ks.map keyOf) (ks.map f) (keyOf x) d))=_
  rw[sq]
 ·rw[gp h,if_neg h]
  show some (C.dct (ks.map keyOf++[keyOf x]) (ks.map f++[d]))=_
  have e1:ks.map f=ks.map (fR f x d):=List.map_congr_left fun y hy=>by
   unfold fR;rw[if_neg (fun z:y=x=>h (z▸hy))]
  have e2:(ks++[x]).map (fR f x d)=ks.map (fR f x d)++[d]:=by
   rw[List.map_append]
   congr 1
   show [fR f x d x]=[d]
   unfold fR;rw[if_pos rfl]
  rw[List.map_append,e1,e2]
  rfl
theorem DK{i:Nat}{δk δv:DE}{ρ:aY}{ks:List Cell}{f:Cell→D}{x:Cell}{d:D}(h0:ρ[i]? =some (some (.ow (CB ks f))))(hv:δv ρ=M.ret d)(hk:δk ρ=M.ret (cD x))(hl:ks.length<lim):
 fG i δk δv ρ=M.ret (.nx (ρ.set i (some (.ow (CB (bM ks x) (fR f x d)))))):=by
 unfold fG uB
 rw[h0]
 show (δv ρ>>=fun v=>δk ρ>>=fun k=>match je (CB ks f) k v with | some c'=>M.ret (Out.nx (ρ.set i (some (.ow c')))) | none=>M.stuck)=_
 rw[hv,ao,hk,ao,DJ hl]
def rank(W:Nat)(x:Cell):Nat:=x.1*W+x.2
theorem d5{R W:Nat}{a b:Cell}(ha:On R W a)(hb:On R W b):zZ a b=true↔rank W a<rank W b:=by
 unfold zZ rank
 have h1:=ha.2
 have h2:=hb.2
 by_cases h:a.1=b.1
 ·rw[if_pos h,decide_eq_true_eq,h];omega
 ·rw[if_neg h,decide_eq_true_eq]
  constructor
  ·intro q
   have:(a.1+1)*W≤b.1*W:=Nat.mul_le_mul_right _ q
   rw[Nat.add_mul,Nat.one_mul] at this
   omega
  ·intro q
   refine Classical.byContradiction fun z=>?_
   have:(b.1+1)*W≤a.1*W:=Nat.mul_le_mul_right _ (by omega)
   rw[Nat.add_mul,Nat.one_mul] at this
   omega
theorem uL{R W:Nat}{a b:Cell}(ha:On R W a)(hb:On R W b)(h:rank W a=rank W b):a=b:=by
 have n1:¬zZ a b=true:=fun z=>by have:=(d5 ha hb).mp z;omega
 have n2:¬zZ b a=true:=fun z=>by have:=(d5 hb ha).mp z;omega
 unfold zZ at n1 n2
 obtain⟨a1,a2⟩:=a
 obtain⟨b1,b2⟩:=b
 simp only at n1 n2
 by_cases h1:a1=b1
 ·rw[if_pos h1,decide_eq_true_eq] at n1
  rw[if_pos h1.symm,decide_eq_true_eq] at n2
  rw[Prod.mk.injEq];exact⟨h1,by omega⟩
 ·rw[if_neg h1,decide_eq_true_eq] at n1
  rw[if_neg (Ne.symm h1),decide_eq_true_eq] at n2
  omega
section
variable{bd:List Str}{W w:Nat}
structure Lab (bd:List Str) (W w:Nat) (L:Cell→Cell):Prop where
 on:∀x,On bd.length W x→On bd.length W (L x)
 cn:∀x,On bd.length W x→Cn bd W w x (L x)
 le:∀x,On bd.length W x→rank W (L x)≤rank W x
def mu(R W:Nat)(L:Cell→Cell):Nat:=((aH R W).map fun x=>rank W (L x)).sum
end
theorem CU{δ:DE}{ρ:aY}{l:List Cell}(h:δ ρ=M.ret (cL l)):cO δ ρ=M.ret (l.map cD):=by
 show (δ ρ>>=lstM)=_
 rw[h]
 rfl
theorem cN(R W:Nat):RiseC (aH R W):=by
 unfold RiseC aH cS
 rw[List.pairwise_flatMap]
 constructor
 ·intro r _
  rw[List.pairwise_map]
  exact List.pairwise_lt_range.imp fun h=>by show (if _ then _ else _)=true;rw[if_pos rfl,decide_eq_true_eq];exact h
 ·refine List.pairwise_lt_range.imp fun {a b} h x hx y hy=>?_
  obtain⟨i,_,rfl⟩:=List.mem_map.mp hx
  obtain⟨j,_,rfl⟩:=List.mem_map.mp hy
  show (if a=b then _ else decide (a<b))=true
  rw[if_neg (by omega),decide_eq_true_eq]
  exact h
section
variable{bd:List Str}{W w:Nat}
def Least(bd:List Str)(W w:Nat)(x m:Cell):Prop:=Cn bd W w x m∧∀z,Cn bd W w x z→rank W m≤rank W z
end
theorem Gr{ks:List Cell}{f:Cell→D}{x:Cell}{d:D}:cZ (ks.map keyOf) (ks.map f) (keyOf x)=(bM ks x).map keyOf∧ck (ks.map keyOf) (ks.map f) (keyOf x) d=(bM ks x).map (fR f x d):=by
 unfold bM cZ ck
 by_cases h:x∈ks
 ·rw[mP h,if_pos h]
  exact⟨rfl,sq⟩
 ·rw[gp h,if_neg h]
  have e1:ks.map f=ks.map (fR f x d):=List.map_congr_left fun y hy=>by
   unfold fR;rw[if_neg (fun z:y=x=>h (z▸hy))]
  have e2:(ks++[x]).map (fR f x d)=ks.map (fR f x d)++[d]:=by
   rw[List.map_append]
   congr 1
   show [fR f x d x]=[d]
   unfold fR;rw[if_pos rfl]
  exact⟨by rw[List.map_append];rfl,by rw[e2,←e1];rfl⟩
theorem n9:∀(l ks:List Cell),bX (ks.map keyOf) (aG ks) (l.map keyOf) (aG l)=((l.foldl bM ks).map keyOf,aG (l.foldl bM ks))
 |[],ks=>rfl
 |x::l,ks=>by
  show bX (cZ (ks.map keyOf) (aG ks) (keyOf x)) (ck (ks.map keyOf) (aG ks) (keyOf x) (.bl true)) (l.map keyOf) (aG l)=_
  have h:=Gr (ks:=ks) (f:=fun _=>D.bl true) (x:=x) (d:= .bl true)
  have e:fR (fun _=>D.bl true) x (.bl true)=fun _=>D.bl true:=by
   funext y;unfold fR;split<;>rfl
  rw[e] at h
  rw[show aG ks=ks.map (fun _=>D.bl true) from rfl,h.1,h.2]
  exact n9 l (bM ks x)
theorem tM{l ks:List Cell}(h:ks.Nodup):(l.foldl bM ks).Nodup:=(jj l ks).1 h
section
open Classical
variable{bd:List Str}{W w:Nat}
noncomputable def aA(bd:List Str)(W w:Nat)(m:Cell):List Cell:=(aH bd.length W).filter fun x=>decide (Cn bd W w m x)
noncomputable def b_(bd:List Str)(W w:Nat)(l:List Cell):List Cell:=l.filter fun x=>decide (Least bd W w x x)
theorem cI(hw:Ways w){m:Cell}(hm:On bd.length W m):IsPatch bd W w m (aA bd W w m):=by
 refine⟨(cN _ _).filter _,fun x=>?_⟩
 unfold aA
 rw[List.mem_filter,aO,decide_eq_true_eq]
 exact⟨fun h=>h.2,fun h=>⟨h.on hw hm,h⟩⟩
theorem Least.on(hw:Ways w){x m:Cell}(hx:On bd.length W x)(h:Least bd W w x m):On bd.length W m:=h.1.on hw hx
theorem Least.move(hw:Ways w){x y m:Cell}(hx:On bd.length W x)(h:Least bd W w x m)(hy:Cn bd W w x y):Least bd W w y m:=
 ⟨(hy.symm hw hx).trans h.1,fun z hz=>h.2 z (hy.trans hz)⟩
theorem Least.one(hw:Ways w){x m n:Cell}(hx:On bd.length W x)(h:Least bd W w x m)(h2:Least bd W w x n):m=n:=
 uL (h.on hw hx) (h2.on hw hx) (Nat.le_antisymm (h.2 n h2.1) (h2.2 m h.1))
theorem Least.self(hw:Ways w){x m:Cell}(hx:On bd.length W x)(h:Least bd W w x m):Least bd W w m m:=h.move hw hx h.1
variable(L:Cell→Cell)
theorem kY(hw:Ways w):∃L:Cell→Cell,∀x,On bd.length W x→Least bd W w x (L x):=by
 have h:∀x,∃m,On bd.length W x→Least bd W w x m:=fun x=>by
  by_cases hx:On bd.length W x
  ·have hP:=cI hw hx
   cases hp:aA bd W w x with
   |nil=>have:=(hP.mem x).mpr Cn.refl;rw[hp] at this;cases this
   |cons m r=>
    rw[hp] at hP
    have hm:=(hP.mem m).mp (List.mem_cons_self ..)
    refine⟨m,fun _=>⟨hm,fun z hz=>?_⟩⟩
    rcases List.mem_cons.mp ((hP.mem z).mpr hz) with rfl | Ju
    ·exact Nat.le_refl _
    ·exact Nat.le_of_lt ((d5 (hm.on hw hx) (hz.on hw hx)).mp ((List.pairwise_cons.mp hP.rise).1 z Ju))
  ·exact⟨x,fun z=>absurd z hx⟩
 exact⟨fun x=>Classical.choose (h x),fun x=>Classical.choose_spec (h x)⟩
noncomputable def il(bd:List Str)(W w:Nat):D:= .lst ((b_ bd W w (aH bd.length W)).map fun m=>cL (aA bd W w m))
end
section
open Classical
variable{bd:List Str}{W w:Nat}
def Ll:DS:=(cB [4,5] (fN (yd (cf (d2 (eu true) (dV 4) (dV 3)))) (av (bB 5 (dA iJ (aC (ak 3 aR (aC (dV 0) (aC (dV 4) (aC (dV 1) aN)))) aN))) (av (jf 2 (dV 5)) (uQ 3 (ak 1 cU (aC (dV 5) aN))))) cC))
noncomputable def yk(bd:List Str)(W w:Nat)(s:List Cell):List D:=(b_ bd W w s).map fun m=>cL (aA bd W w m)
noncomputable def B7(bd:List Str)(W w:Nat)(s ks:List Cell)(x4 x5:Option Sl):aY:=[fz (brd bd),fz (.int (w:Int)),some (.ow (.lst (yk bd W w s))),some (.ow (.dct (ks.map keyOf) (aG ks))),x4,x5]
structure Seen (bd:List Str) (W w:Nat) (s ks:List Cell):Prop where
 nd:ks.Nodup
 on:∀y∈ks,On bd.length W y
 mem:∀y,y∈ks↔∃m∈b_ bd W w s,Cn bd W w m y
theorem u_{i:Nat}{δ:DE}{ρ:aY}{ks l:List Cell}(h0:ρ[i]? =some (some (.ow (.dct (ks.map keyOf) (aG ks)))))(hd:δ ρ=M.ret (hZ l))(hz:ks.length+l.length≤4096)(hh:ks=[]→((bo l).map fun c=>dN (ic c)).Nodup):
 uQ i δ ρ=M.ret (.nx (ρ.set i (some (.ow (.dct (((bo l).foldl bM ks).map keyOf) (aG ((bo l).foldl bM ks))))))):=by
 unfold uQ uB
 rw[h0]
 show (δ ρ>>=fun d=>match B2 (ks.map keyOf) (aG ks) d with | some c'=>M.ret (Out.nx (ρ.set i (some (.ow c')))) | none=>M.stuck)=_
 rw[hd,ao]
 have:B2 (ks.map keyOf) (aG ks) (hZ l)=some (.dct (((bo l).foldl bM ks).map keyOf) (aG ((bo l).foldl bM ks))):=by
  show (match dS ((bo l).map keyOf) with | some ns=>if (aG ks).length+(aG (bo l)).length≤lim∧((ks.map keyOf).isEmpty=true→(ns.map dN).Nodup) then some (C.dct (bX (ks.map keyOf) (aG ks) ((bo l).map keyOf) (aG (bo l))).1 (bX (ks.map keyOf) (aG ks) ((bo l).map keyOf) (aG (bo l))).2) else none | none=>none)=_
  rw[iY]
  show (if (aG ks).length+(aG (bo l)).length≤lim∧((ks.map keyOf).isEmpty=true→(((bo l).map ic).map dN).Nodup) then some (C.dct (bX (ks.map keyOf) (aG ks) ((bo l).map keyOf) (aG (bo l))).1 (bX (ks.map keyOf) (aG ks) ((bo l).map keyOf) (aG (bo l))).2) else none)=_
  have c1:(aG ks).length+(aG (bo l)).length≤lim:=by
   have:=yV l
   unfold aG
   rw[List.length_map,List.length_map,c5];omega
  have c2:(ks.map keyOf).isEmpty=true→(((bo l).map ic).map dN).Nodup:=fun z=>by
   rw[List.map_map]
   exact hh (by cases ks with | nil=>rfl | cons _ _=>cases z)
  rw[if_pos ⟨c1,c2⟩,n9]
 rw[this]
theorem uZ(hg:Brd bd W)(hs:bd.length*W<64)(hw:Ways w){x:Cell}(hx:On bd.length W x){ρ:aY}(h0:dV 0 ρ=M.ret (brd bd))(h1:dV 1 ρ=M.ret (.int (w:Int)))(h4:dV 4 ρ=M.ret (cD x)):
 dA iJ (aC (ak 3 aR (aC (dV 0) (aC (dV 4) (aC (dV 1) aN)))) aN) ρ=M.ret (cL (aA bd W w x)):=by
 obtain⟨k,ks,ps,q1,q2,q3⟩:=iL hg hw hx
 have e1:ak 3 aR (aC (dV 0) (aC (dV 4) (aC (dV 1) aN))) ρ=M.ret (wZ ks ps):=(aj (ds:=[brd bd,cD x, .int (w:Int)]) (aU h0 (aU h4 (aU h1 rfl))) rfl).trans q3
 refine(b8 (xs:=[wZ ks ps]) (aU e1 rfl)).trans ((u3 q1.nd (Nat.lt_of_le_of_lt (gr q1.nd q2) hs)).trans ?_)
 have:iI ks=aA bd W w x:=IsPatch.one ⟨gW q1.nd,fun x=>i4.trans (q1.last x)⟩ (cI hw hx)
 rw[this]
theorem gM(s:List Cell)(x:Cell):b_ bd W w (s++[x])=if Least bd W w x x then b_ bd W w s++[x] else b_ bd W w s:=by
 unfold b_
 rw[List.filter_append]
 by_cases h:Least bd W w x x
 ·rw[if_pos h,List.filter_cons_of_pos (by rw[decide_eq_true_eq];exact h),List.filter_nil]
 ·rw[if_neg h,List.filter_cons_of_neg (by rw[decide_eq_true_eq];exact h),List.filter_nil,List.append_nil]
theorem Cs(hg:Brd bd W)(hs:bd.length*W<64)(hw:Ways w){L:Cell→Cell}(hL:∀x,On bd.length W x→Least bd W w x (L x)){s r ks:List Cell}{x:Cell}(e:s++x::r=aH bd.length W)(h:Seen bd W w s ks):
 ∃ks',Seen bd W w (s++[x]) ks'∧Ll (B7 bd W w s ks (fz (cD x)) none)=M.ret (.nx (B7 bd W w (s++[x]) ks' none none)):=by
 have hx:On bd.length W x:=aO.mp (by rw[←e];simp)
 have nP:=cN bd.length W
 rw[←e] at nP
 have Cg:∀y∈s,On bd.length W y:=fun y hy=>aO.mp (by rw[←e];simp[hy])
 have HU:∀y∈r,On bd.length W y:=fun y hy=>aO.mp (by rw[←e];simp[hy])
 have ro:∀y∈s,rank W y<rank W x:=fun y hy=>(d5 (Cg y hy) hx).mp ((List.pairwise_append.mp nP).2.2 y hy x (List.mem_cons_self ..))
 have vQ:∀y∈r,rank W x<rank W y:=fun y hy=>(d5 hx (HU y hy)).mp ((List.pairwise_cons.mp (List.pairwise_append.mp nP).2.1).1 y hy)
 have Ni:ks.length≤64:=by have:=gr (bd:=bd) (W:=W) h.nd h.on;omega
 have sX:s.length<64:=by
  have:=congrArg List.length e
  rw[cu,List.length_append,List.length_cons] at this
  omega
 have ht:yd (cf (d2 (eu true) (dV 4) (dV 3))) (B7 bd W w s ks (fz (cD x)) none)=M.ret (!decide (x∈ks)):=
  ye (fj ((aP (x:=cD x) (y:= .dct (ks.map keyOf) (aG ks)) rfl rfl).trans (iW (neg:=true) (by simp[aG]))))
 by_cases hl:Least bd W w x x
 ·have Kx:x∉ks:=fun z=>by
   obtain⟨m,hm,hc⟩:=(h.mem x).mp z
   unfold b_ at hm
   rw[List.mem_filter,decide_eq_true_eq] at hm
   have h1:=ro m hm.1
   have h2:=hl.2 m (hc.symm hw (Cg m hm.1))
   omega
  rw[decide_eq_false Kx] at ht
  have hP:=cI hw hx (bd:=bd) (W:=W)
  have E0:∀y∈aA bd W w x,On bd.length W y:=fun y hy=>((hP.mem y).mp hy).on hw hx
  have Ca:(aA bd W w x).length≤64:=by have:=gr (bd:=bd) (W:=W) hP.rise.nodup E0;omega
  have Jm:(yk bd W w s).length<lim:=by
   unfold yk
   rw[List.length_map,c5]
   have:=List.length_filter_le (fun x=>decide (Least bd W w x x)) s
   unfold b_
   omega
  refine⟨(bo (aA bd W w x)).foldl bM ks,⟨tM h.nd,fun y hy=>?_,fun y=>?_⟩,?_⟩
  ·rcases((jj (bo (aA bd W w x)) ks).2.1 y).mp hy with q | q
   ·exact h.on y q
   ·exact E0 y (dj.mp q)
  ·rw[(jj (bo (aA bd W w x)) ks).2.1 y,dj,h.mem y,gM,if_pos hl,hP.mem y]
   constructor
   ·rintro(⟨m,hm,hc⟩ | hc)
    ·exact⟨m,List.mem_append.mpr (.inl hm),hc⟩
    ·exact⟨x,by simp,hc⟩
   ·rintro⟨m,hm,hc⟩
    rcases List.mem_append.mp hm with hm | hm
    ·exact .inl ⟨m,hm,hc⟩
    ·rw[List.mem_singleton.mp hm] at hc;exact .inr hc
  ·have ef:yk bd W w (s++[x])=yk bd W w s++[cL (aA bd W w x)]:=by
    unfold yk
    rw[gM,if_pos hl,List.map_append]
    rfl
   refine(bg (ρ':=[fz (brd bd),fz (.int (w:Int)),some (.ow (.lst (yk bd W w s++[cL (aA bd W w x)]))),some (.ow (.dct (((bo (aA bd W w x)).foldl bM ks).map keyOf) (aG ((bo (aA bd W w x)).foldl bM ks)))),fz (cD x),fz (cL (aA bd W w x))]) (eC ht (ai (ρ':=B7 bd W w s ks (fz (cD x)) (fz (cL (aA bd W w x)))) ((aL (uZ hg hs hw hx rfl rfl rfl)).trans rfl) (ai (ρ':=[fz (brd bd),fz (.int (w:Int)),some (.ow (.lst (yk bd W w s++[cL (aA bd W w x)]))),some (.ow (.dct (ks.map keyOf) (aG ks))),fz (cD x),fz (cL (aA bd W w x))]) ?_ ?_)))).trans ?_
   ·show (if (yk bd W w s).length<lim then M.ret (Out.nx [fz (brd bd),fz (.int (w:Int)),some (.ow (.lst (yk bd W w s++[cL (aA bd W w x)]))),some (.ow (.dct (ks.map keyOf) (aG ks))),fz (cD x),fz (cL (aA bd W w x))]) else M.stuck)=_
    rw[if_pos Jm]
   ·exact(u_ (ks:=ks) (l:=aA bd W w x) rfl ((aj (ds:=[cL (aA bd W w x)]) rfl rfl).trans (iZ (by omega))) (by omega) (fun _=>rn hg.r8 hg.w8 (ug _) fun y hy=>E0 y (dj.mp hy))).trans rfl
   ·unfold B7
    rw[ef]
    rfl
 ·have hm:=hL x hx
  have fm:L x≠x:=fun z=>hl (by rw[z] at hm;exact hm)
  have dO:rank W (L x)<rank W x:=by
   have h1:=hm.2 x Cn.refl
   have h2:rank W (L x)≠rank W x:=fun z=>fm (uL (hm.on hw hx) hx z)
   omega
  have Nr:L x∈s:=by
   have:L x∈s++x::r:=by rw[e];exact aO.mpr (hm.on hw hx)
   rcases List.mem_append.mp this with q | q
   ·exact q
   ·rcases List.mem_cons.mp q with q | q
    ·exact absurd q fm
    ·have:=vQ _ q;omega
  have Kx:x∈ks:=(h.mem x).mpr ⟨L x,by unfold b_;rw[List.mem_filter,decide_eq_true_eq];exact⟨Nr,hm.self hw hx⟩,hm.1.symm hw hx⟩
  rw[decide_eq_true Kx] at ht
  refine⟨ks,⟨h.nd,h.on,fun y=>by rw[gM,if_neg hl];exact h.mem y⟩,?_⟩
  have ef:yk bd W w (s++[x])=yk bd W w s:=by
   unfold yk
   rw[gM,if_neg hl]
  refine(bg (c8 ht rfl)).trans ?_
  unfold B7
  rw[ef]
  rfl
theorem wV(hg:Brd bd W)(hs:bd.length*W<64)(hw:Ways w){L:Cell→Cell}(hL:∀x,On bd.length W x→Least bd W w x (L x)):∀(r s ks:List Cell),s++r=aH bd.length W→Seen bd W w s ks→
 ∃ks',forL (putN 4) Ll (r.map cD) (B7 bd W w s ks none none)=M.ret (.nx (B7 bd W w (aH bd.length W) ks' none none))
 |[],s,ks,e,h=>by
  rw[List.append_nil] at e
  exact⟨ks,by rw[e];rfl⟩
 |x::r,s,ks,e,h=>by
  obtain⟨N2,h1,e1⟩:=Cs hg hs hw hL e h
  obtain⟨N3,e2⟩:=wV hg hs hw hL r (s++[x]) N2 (by rw[List.append_assoc];exact e) h1
  exact⟨N3,(dQ rfl e1).trans e2⟩
theorem et(hg:Brd bd W)(hs:bd.length*W<64)(hw:Ways w):aV [brd bd, .int (w:Int)]=M.ret (il bd W w):=by
 obtain⟨L,hL⟩:=kY (bd:=bd) (W:=W) hw
 obtain⟨ks,e⟩:=wV hg hs hw hL (aH bd.length W) [] [] rfl ⟨List.nodup_nil,(fun y hy=>(by cases hy)),(fun y=>⟨fun z=>(by cases z),fun⟨m,hm,_⟩=>(by cases hm)⟩)⟩
 refine aT (ai (ρ':=[fz (brd bd),fz (.int (w:Int)),some (.ow (.lst [])),none,none,none]) rfl (ai (ρ':=B7 bd W w [] [] none none) rfl (ai (ρ':=B7 bd W w (aH bd.length W) ks none none) (dE (fF (ds:=(aH bd.length W).map cD) (CU ((aj (ds:=[brd bd]) rfl rfl).trans (jg hg))) e)) rfl)))
end
structure NumOk (R W:Nat) (Ps:List (List Cell)) (ks:List Cell) (f:Cell→Nat):Prop where
 nd:ks.Nodup
 on:∀y∈ks,On R W y
 num:∀y∈ks,∃P,Ps[f y]? =some P∧y∈P
section
open Classical
variable{bd:List Str}{W w:Nat}
noncomputable def bZ(bd:List Str)(W w:Nat):List (List Cell):=(b_ bd W w (aH bd.length W)).map (aA bd W w)
theorem oJ:il bd W w= .lst ((bZ bd W w).map cL):=by
 unfold il bZ
 rw[List.map_map]
 rfl
theorem d_{m:Cell}(h:m∈b_ bd W w (aH bd.length W)):On bd.length W m:=by
 unfold b_ at h
 exact aO.mp (List.mem_filter.mp h).1
theorem j3(hg:Brd bd W)(hs:bd.length*W<64)(hw:Ways w):cQ [brd bd, .int (w:Int)]=M.ret (.int ((bZ bd W w).length:Int)):=by
 refine aT (ai (aX ((aj (ds:=[brd bd]) rfl rfl).trans hg.nb)) (ai (aX ((aj (ds:=[.int (w:Int)]) rfl rfl).trans hw.nw)) (aB ((b8 (xs:=[il bd W w]) (aU ((aj (ds:=[brd bd, .int (w:Int)]) rfl rfl).trans (et hg hs hw)) rfl)).trans ?_))))
 rw[oJ]
 show M.ret (D.int (((bZ bd W w).map cL).length:Int))=_
 rw[List.length_map]
end
end K1
namespace K1
open PySem L2 L3 HT
def wd(l:List Nat):Str:=⟨l.toArray⟩
theorem gX(l:List Nat):(wd l).cps.toList=l:=by simp[wd]
theorem C3(l:List Nat):(wd l).length=l.length:=by simp[wd,Str.length]
theorem vx(x y:Str):(x++y).cps.toList=x.cps.toList++y.cps.toList:=by
 show (x.cps++y.cps).toList=_
 simp
theorem yf:∀l:List Nat,mC (l.map sg)=some (l.map fun c=>(⟨#[c]⟩:Str))
 |[]=>rfl
 |c::r=>by
  show (mC (r.map sg)).map _=_
  rw[yf r]
  rfl
theorem w_:∀l:List Nat,dr (l.map fun c=>(⟨#[c]⟩:Str))=wd l
 |[]=>rfl
 |c::r=>by
  refine yc ?_
  show ((⟨#[c]⟩:Str)++dr (r.map fun c=>(⟨#[c]⟩:Str))).cps.toList=_
  rw[vx,w_ r,gX,gX]
  rfl
theorem BU:∀l:List Nat,((l.map fun c=>(⟨#[c]⟩:Str)).map (·.length)).sum=l.length
 |[]=>rfl
 |c::r=>by
  show 1+((r.map fun c=>(⟨#[c]⟩:Str)).map (·.length)).sum=_
  rw[BU r,List.length_cons]
  omega
theorem C0{l:List Nat}(h:l.length≤4096):joinM (.str "") [.lst (l.map sg)]=M.ret (.str (wd l)):=by
 show (match mC (l.map sg) with | some (xs:List Str)=>if ("":Str).length=0∧(xs.map fun x:Str=>x.length).sum≤lim then M.ret (D.str (dr xs)) else M.stuck | none=>M.stuck)=_
 rw[yf]
 show (if ("":Str).length=0∧((l.map fun c=>(⟨#[c]⟩:Str)).map fun x:Str=>x.length).sum≤lim then M.ret (D.str (dr (l.map fun c=>(⟨#[c]⟩:Str)))) else M.stuck)=_
 rw[if_pos ⟨rfl,by have:=BU l;rw[c5];exact Nat.le_trans (Nat.le_of_eq this) h⟩,w_]
theorem mH(c:Nat):Ck ⟨#[c]⟩=decide (c∈[97,98,99,100,101,102]):=StrLaws.found_one "abcdef" c
abbrev zF:List Nat:=[97,98,99,100,101,102]
theorem DO{W:Nat}{r:Str}(h:Row W r){c:Nat}(hc:c∈r.cps.toList):c∈[97,98,99,100,101,102]:=by
 have:=h.let' c hc
 rw[mH] at this
 exact of_decide_eq_true this
def Cr(bd:List Str):List Nat:=(bd.map (·.cps.toList)).flatten
theorem ua{bd:List Str}{c:Nat}:c∈Cr bd↔∃r∈bd,c∈r.cps.toList:=by
 unfold Cr
 rw[List.mem_flatten]
 constructor
 ·rintro⟨l,hl,h⟩
  obtain⟨r,hr,rfl⟩:=List.mem_map.mp hl
  exact⟨r,hr,h⟩
 ·rintro⟨r,hr,h⟩
  exact⟨_,List.mem_map.mpr ⟨r,hr,rfl⟩,h⟩
theorem zN{bd:List Str}{W:Nat}(hg:Brd bd W){c:Nat}(h:c∈Cr bd):c∈zF:=by
 obtain⟨r,hr,h⟩:=ua.mp h
 exact DO (hg.rows r hr) h
theorem C6{bd:List Str}{W:Nat}(hg:Brd bd W){c:Cell}(hc:On bd.length W c):lt bd c∈Cr bd:=by
 have h1:c.1<bd.length:=hc.1
 have hr:(bd.getD c.1 ⟨#[]⟩).cps.toList.length=W:=(hg.rows _ (getD_mem h1)).len
 have h2:c.2<(bd.getD c.1 ⟨#[]⟩).cps.toList.length:=by rw[hr];exact hc.2
 refine ua.mpr ⟨_,getD_mem h1,?_⟩
 show ch (bd.getD c.1 ⟨#[]⟩) c.2∈_
 generalize bd.getD c.1 ⟨#[]⟩=r at h2
 unfold ch
 rw[List.getD_eq_getElem?_getD,List.getElem?_eq_getElem h2]
 exact List.getElem_mem h2
theorem qX{bd:List Str}{i j:Nat}(hi:i<bd.length)(hj:j<bd[i].cps.toList.length):at2 bd i j=bd[i].cps.toList[j]:=by
 unfold at2 ch
 rw[List.getD_eq_getElem?_getD (l:=bd),List.getElem?_eq_getElem hi,Option.getD_some,List.getD_eq_getElem?_getD,List.getElem?_eq_getElem hj,Option.getD_some]
theorem Aj{α:Type}{l:List α}{i:Nat}{x:α}(h:l[i]? =some x)(hi:i<l.length):l[i]=x:=by
 rw[List.getElem?_eq_getElem hi] at h
 exact Option.some.inj h
theorem Ct{a b:List Str}{W:Nat}(ha:∀r∈a,r.length=W)(hb:∀r∈b,r.length=W)(hl:a.length=b.length)(h:∀i j,i<a.length→j<W→at2 a i j=at2 b i j):a=b:=by
 refine List.ext_getElem hl fun i h1 h2=>?_
 have w1:a[i].cps.toList.length=W:=ha _ (List.getElem_mem h1)
 have w2:b[i].cps.toList.length=W:=hb _ (List.getElem_mem h2)
 refine yc (List.ext_getElem (by rw[w1,w2]) fun j q1 q2=>?_)
 rw[←qX h1 q1,←qX h2 q2]
 exact h i j h1 (by omega)
def xB(R W:Nat)(g:Nat→Nat→Nat):List Str:=(List.range R).map fun i=>wd ((List.range W).map (g i))
theorem i5(R W:Nat)(g:Nat→Nat→Nat):(xB R W g).length=R:=by simp[xB]
theorem xC{R W:Nat}{g:Nat→Nat→Nat}:∀r∈xB R W g,r.length=W:=fun r hr=>by
 obtain⟨i,_,rfl⟩:=List.mem_map.mp hr
 rw[C3,List.length_map,List.length_range]
theorem AI{R W:Nat}{g:Nat→Nat→Nat}{i j:Nat}(hi:i<R)(hj:j<W):at2 (xB R W g) i j=g i j:=by
 have h1:i<(xB R W g).length:=by rw[i5];exact hi
 have e0:(xB R W g)[i]? =some (wd ((List.range W).map (g i))):=by
  unfold xB
  rw[List.getElem?_map,List.getElem?_range hi]
  rfl
 have e1:(xB R W g)[i].cps.toList=(List.range W).map (g i):=by rw[Aj e0 h1,gX]
 have h2:j<(xB R W g)[i].cps.toList.length:=by rw[e1,List.length_map,List.length_range];exact hj
 rw[qX h1 h2]
 have:(xB R W g)[i].cps.toList[j]? =some (g i j):=by rw[e1,List.getElem?_map,List.getElem?_range hj];rfl
 exact Aj this h2
theorem AJ{bd:List Str}{R W:Nat}{g:Nat→Nat→Nat}(hl:bd.length=R)(hr:∀r∈bd,r.length=W)(h:∀i j,i<R→j<W→g i j=at2 bd i j):xB R W g=bd:=
 Ct (W:=W) xC hr ((i5 ..).trans hl.symm) fun i j hi hj=>by
  rw[i5] at hi
  rw[AI hi hj,h i j hi hj]
theorem AK{R W:Nat}{g:Nat→Nat→Nat}(r1:1≤R)(r5:R≤5)(w1:1≤W)(w5:W≤5)(h:∀i j,i<R→j<W→g i j∈zF):Good (xB R W g) W:=by
 refine⟨by rw[i5];exact r1,by rw[i5];exact r5,w1,w5,fun r hr=>⟨xC r hr,fun c hc=>?_⟩⟩
 obtain⟨i,hi,rfl⟩:=List.mem_map.mp hr
 rw[gX] at hc
 obtain⟨j,hj,rfl⟩:=List.mem_map.mp hc
 exact(mH _).trans (decide_eq_true (h i j (List.mem_range.mp hi) (List.mem_range.mp hj)))
theorem wW{bd:List Str}{W i j:Nat}(hg:Brd bd W)(hi:i<bd.length)(hj:j<W):at2 bd i j∈zF:=zN hg (C6 (c:=(i,j)) hg ⟨hi,hj⟩)
def dJ(bd:List Str)(W:Nat)(some:List Cell)(c:Nat):List Str:=xB bd.length W fun i j=>if (i,j)∈some then c else at2 bd i j
theorem mE{bd:List Str}{W:Nat}(hg:Brd bd W){so:D}{l ks:List Cell}{ds:List D}(hk:cU [so]=M.ret (.dct (ks.map keyOf) ds))(hl:ks.length=ds.length)(hm:∀x,x∈ks↔x∈l)(c:Nat):bH [brd bd,so,sg c]=M.ret (brd (dJ bd W l c)):=by
 have h8:=hg.r8
 have w8:=hg.w8
 have row:∀{i:Nat},i<bd.length→∀{x4 x5:Option Sl},dM Ay joinM (dC (.str "")) (aC (bt 0 (cO (dV 6)) du (Ea (cf (d2 (eu false) (dV 0) (dV 4))) (dV 3) (ak 2 aW (aC (dV 1) (aC (dV 0) aN))))) aN) [fz (brd bd),fz so,fz (sg c),fz (.dct (ks.map keyOf) ds),x4,x5,fz (.lst ((cS W i).map cD))]=M.ret (.str (wd ((List.range W).map fun j=>if (i,j)∈l then c else at2 bd i j))):=by
  intro i hi x4 x5
  have cm:bt 0 (cO (dV 6)) du (Ea (cf (d2 (eu false) (dV 0) (dV 4))) (dV 3) (ak 2 aW (aC (dV 1) (aC (dV 0) aN)))) [fz (brd bd),fz so,fz (sg c),fz (.dct (ks.map keyOf) ds),x4,x5,fz (.lst ((cS W i).map cD))]=M.ret (.lst (((List.range W).map fun j=>if (i,j)∈l then c else at2 bd i j).map sg)):=by
   refine b9 (ds:=(cS W i).map cD) rfl ?_ (by simp[c5];omega)
   unfold cS
   rw[List.map_map,List.map_map]
   refine m_ (cD∘fun k=>(i,k)) _ _ fun j hj=>?_
   have hj:=List.mem_range.mp hj
   have hc:On bd.length W (i,j):=⟨hi,hj⟩
   rw[m8]
   have e1:cf (d2 (eu false) (dV 0) (dV 4)) (fz (cD (i,j))::[fz (brd bd),fz so,fz (sg c),fz (.dct (ks.map keyOf) ds),x4,x5,fz (.lst ((cS W i).map cD))])=M.ret (decide ((i,j)∈ks)):=fj ((aP (x:=cD (i,j)) (y:= .dct (ks.map keyOf) ds) rfl rfl).trans (iW hl))
   have e2:Ea (cf (d2 (eu false) (dV 0) (dV 4))) (dV 3) (ak 2 aW (aC (dV 1) (aC (dV 0) aN))) (fz (cD (i,j))::[fz (brd bd),fz so,fz (sg c),fz (.dct (ks.map keyOf) ds),x4,x5,fz (.lst ((cS W i).map cD))])=M.ret (sg (if (i,j)∈l then c else at2 bd i j)):=by
    rw[He e1]
    by_cases h:(i,j)∈l
    ·rw[if_pos h,if_pos (decide_eq_true ((hm _).mpr h))]
     rfl
    ·rw[if_neg h,if_neg (fun z=>h ((hm _).mp (of_decide_eq_true z)))]
     exact(aj (ds:=[brd bd,cD (i,j)]) rfl rfl).trans (dZ hg hc)
   exact(congrArg (· >>=fun y=>M.ret (some y)) e2).trans rfl
  show (if Ay (.str "") then((aC _ aN) [fz (brd bd),fz so,fz (sg c),fz (.dct (ks.map keyOf) ds),x4,x5,fz (.lst ((cS W i).map cD))]>>=fun ds=>joinM (.str "") ds) else M.stuck)=_
  rw[if_pos (show Ay (.str "")=true from rfl),aU cm (xs:=[]) rfl,ao]
  exact C0 (by simp;omega)
 have lp:=fW (put:=putN 5) (body:=cB [5,6] (av (bB 6 (ak 2 a6 (aC (dV 0) (aC (dV 5) aN)))) (jf 4 (dM Ay joinM (dC (.str "")) (aC (bt 0 (cO (dV 6)) du (Ea (cf (d2 (eu false) (dV 0) (dV 4))) (dV 3) (ak 2 aW (aC (dV 1) (aC (dV 0) aN))))) aN))))) (fun (k:Nat)=>D.int (k:Int)) (fun acc=>[fz (brd bd),fz so,fz (sg c),fz (.dct (ks.map keyOf) ds),some (.ow (.lst acc)),none,none]) (fun i=>[.str (wd ((List.range W).map fun j=>if (i,j)∈l then c else at2 bd i j))]) (B:=100) (List.range bd.length) [] (by
  have:∀l':List Nat,(l'.flatMap fun i=>[D.str (wd ((List.range W).map fun j=>if (i,j)∈l then c else at2 bd i j))]).length=l'.length:=by
   intro l'
   induction l' with
   |nil=>rfl
   |cons a l' ih=>rw[List.flatMap_cons,List.length_append,ih,List.length_cons];simp;omega
  rw[List.nil_append,this,List.length_range]
  omega) fun i hi acc ha=>by
  have hi:=List.mem_range.mp hi
  refine⟨[fz (brd bd),fz so,fz (sg c),fz (.dct (ks.map keyOf) ds),some (.ow (.lst acc)),fz (.int (i:Int)),none],rfl,?_⟩
  refine(bg (ρ':=[fz (brd bd),fz so,fz (sg c),fz (.dct (ks.map keyOf) ds),some (.ow (.lst (acc++[.str (wd ((List.range W).map fun j=>if (i,j)∈l then c else at2 bd i j))]))),fz (.int (i:Int)),fz (.lst ((cS W i).map cD))]) (ai (ρ':=[fz (brd bd),fz so,fz (sg c),fz (.dct (ks.map keyOf) ds),some (.ow (.lst acc)),fz (.int (i:Int)),fz (.lst ((cS W i).map cD))]) ((aL ((aj (ds:=[brd bd, .int (i:Int)]) rfl rfl).trans (fT hg i))).trans rfl) ?_)).trans rfl
  show (dM Ay joinM _ _ _>>=fun d=>if acc.length<lim then M.ret (Out.nx _) else M.stuck)=_
  rw[row hi,ao,if_pos (by rw[c5];rw[List.length_append] at ha;simp at ha;omega)]
  rfl
 refine aT (ai (ρ':=[fz (brd bd),fz so,fz (sg c),fz (.dct (ks.map keyOf) ds),none,none,none]) ((aL ((aj (ds:=[so]) rfl rfl).trans hk)).trans rfl) (ai (ρ':=[fz (brd bd),fz so,fz (sg c),fz (.dct (ks.map keyOf) ds),some (.ow (.lst [])),none,none]) rfl (ai (dE (fF (Gy (n:=bd.length) (FH (i:=0) rfl) (by omega)) lp)) (aB ?_))))
 refine(b8 (xs:=[.lst ((List.range bd.length).flatMap fun i=>[.str (wd ((List.range W).map fun j=>if (i,j)∈l then c else at2 bd i j))])]) rfl).trans ?_
 show M.ret (D.tup _)=M.ret (D.tup ((dJ bd W l c).map D.str))
 unfold dJ xB
 rw[List.map_map]
 have:∀l':List Nat,(l'.flatMap fun i=>[D.str (wd ((List.range W).map fun j=>if (i,j)∈l then c else at2 bd i j))])=l'.map (D.str∘fun i=>wd ((List.range W).map fun j=>if (i,j)∈l then c else at2 bd i j)):=by
  intro l'
  induction l' with
  |nil=>rfl
  |cons a l' ih=>rw[List.flatMap_cons,ih];rfl
 rw[this]
theorem gq{bd:List Str}{W:Nat}(hg:Brd bd W){l:List Cell}(hl:l.length<4000)(c:Nat):bH [brd bd,cL l,sg c]=M.ret (brd (dJ bd W l c)):=
 mE hg (iZ hl) (by simp[aG]) (fun x=>dj) c
theorem xY{bd:List Str}{W:Nat}{l:List Cell}{c i j:Nat}(hi:i<bd.length)(hj:j<W):at2 (dJ bd W l c) i j=if (i,j)∈l then c else at2 bd i j:=AI hi hj
theorem gg(bd:List Str)(W:Nat)(l:List Cell)(c:Nat):(dJ bd W l c).length=bd.length:=i5 ..
theorem qF{bd:List Str}{W:Nat}(hG:Good bd W){l:List Cell}{c:Nat}(hc:c∈zF):Good (dJ bd W l c) W:=AK hG.r1 hG.r5 hG.w1 hG.w5 fun i j hi hj=>by
 split
 ·exact hc
 ·exact wW hG.brd hi hj
theorem AR{p:Nat}(h:Ck ⟨#[p]⟩=true):cG [sg p]=M.ret .non:=
 mO (c8 (vK (b:=true) (nj ((aj (ds:=[sg p]) rfl rfl).trans ((jk (d:=sg p) trivial).trans (by show M.ret (D.bl (true&&Ck ⟨#[p]⟩))=_;rw[h];rfl))))) rfl)
theorem mD{bd:List Str}{W:Nat}(hg:Brd bd W){x:Cell}(hx:On bd.length W x){c:Nat}(hc:c∈zF):cH [brd bd,cD x,sg c]=M.ret (brd (dJ bd W [x] c)):=
 aT (ai (aX ((aj (ds:=[brd bd]) rfl rfl).trans hg.nb)) (ai (aX ((aj (ds:=[brd bd,cD x]) rfl rfl).trans (hg.nc hx))) (ai (aX ((aj (ds:=[sg c]) rfl rfl).trans (AR ((mH c).trans (decide_eq_true hc))))) (aB ((aj (ds:=[brd bd,cL [x],sg c]) rfl rfl).trans (gq hg (by simp) c))))))
theorem vz{bd:List Str}{W w:Nat}(hg:Brd bd W)(hw:Ways w){x:Cell}(hx:On bd.length W x):fV [brd bd,cD x, .int (w:Int)]=M.ret (cL (eB bd.length W w x)):=
 aT (ai (aX ((aj (ds:=[brd bd]) rfl rfl).trans hg.nb)) (ai (aX ((aj (ds:=[brd bd,cD x]) rfl rfl).trans (hg.nc hx))) (ai (aX ((aj (ds:=[.int (w:Int)]) rfl rfl).trans hw.nw)) (aB ((aj (ds:=[brd bd,cD x, .int (w:Int)]) rfl rfl).trans (fc hg hw hx))))))
theorem pB{bd:List Str}{W:Nat}(hg:Brd bd W){c:Cell}(h:On bd.length W c):bS [brd bd,cD c]=M.ret (sg (lt bd c)):=
 aT (ai (aX ((aj (ds:=[brd bd]) rfl rfl).trans hg.nb)) (ai (aX ((aj (ds:=[brd bd,cD c]) rfl rfl).trans (hg.nc h))) (aB ((aj (ds:=[brd bd,cD c]) rfl rfl).trans (dZ hg h)))))
end K1
namespace K1
open PySem L2 L3
theorem rk{α σ:Type}{put:D→aY→Option aY}{body:DS}(enc:α→D)(I:σ→aY→Prop)(step:σ→α→σ):∀(xs:List α) (s:σ) (ρ:aY),I s ρ→(∀s ρ,I s ρ→∀x∈xs,∃ρ1 ρ2,put (enc x) ρ=some ρ1∧body ρ1=M.ret (.nx ρ2)∧I (step s x) ρ2)→
 ∃ρ',forL put body (xs.map enc) ρ=M.ret (.nx ρ')∧I (xs.foldl step s) ρ'
 |[],s,ρ,h,_=>⟨ρ,rfl,h⟩
 |x::xs,s,ρ,h,st=>by
  obtain⟨ρ1,ρ2,e1,e2,h2⟩:=st s ρ h x (List.mem_cons_self ..)
  obtain⟨ρ',e3,h3⟩:=rk enc I step xs (step s x) ρ2 h2 fun s ρ h y hy=>st s ρ h y (List.mem_cons_of_mem _ hy)
  exact⟨ρ',by rw[List.map_cons,dQ e1 e2,e3],h3⟩
theorem BC{i:Nat}{δk δv:DE}{ρ:aY}{c c':C}{k d:D}(h0:ρ[i]? =some (some (.ow c)))(hv:δv ρ=M.ret d)(hk:δk ρ=M.ret k)(hp:je c k d=some c'):fG i δk δv ρ=M.ret (.nx (ρ.set i (some (.ow c')))):=by
 unfold fG uB
 rw[h0]
 show (δv ρ>>=fun v=>δk ρ>>=fun k=>match je c k v with | some c'=>M.ret (Out.nx (ρ.set i (some (.ow c')))) | none=>M.stuck)=_
 rw[hv,ao,hk,ao,hp]
theorem CY{ks:List Cell}{vs:List Int}{c:Cell}(hl:ks.length=vs.length)(h:c∈ks):∃i:Int,jX (.dct (ks.map keyOf) (vs.map D.int)) (cD c)=M.ret (.int i):=by
 obtain⟨d,e1,e2⟩:=jc (ds:=vs.map D.int) (by rw[List.length_map];exact hl) h
 obtain⟨i,_,rfl⟩:=List.mem_map.mp (List.of_mem_zip e2).2
 refine⟨i,?_⟩
 show (match (d8 (cD c)).map (eL (ks.map keyOf) (vs.map D.int)) with | some (some v)=>M.ret v | _=>M.stuck)=_
 rw[gG]
 show (match some (eL (ks.map keyOf) (vs.map D.int) (keyOf c)) with | some (some v)=>M.ret v | _=>M.stuck)=_
 rw[e1]
structure Sok (S:List Cell) (s:Bk Cell):Prop where
 len:s.ks.length=s.ps.length
 nd:s.ks.Nodup
 on:∀x∈s.ks,x∈S
 fu:s.fu.length≤s.ks.length
theorem Sok.step{S:List Cell}{s:Bk Cell}(h:Sok S s){c x:Cell}(hx:x∈S):Sok S (cj c s x):=by
 unfold cj
 split
 ·exact h
 ·rename_i hn
  refine⟨by simp[h.len],?_,fun y hy=>?_,by simp;exact h.fu⟩
  ·refine List.nodup_append.mpr ⟨h.nd,by simp,fun y hy z hz e=>?_⟩
   have hz:z=x:=by simpa using hz
   rw[e,hz] at hy
   exact hn hy
  ·rcases List.mem_append.mp hy with q | q
   ·exact h.on y q
   ·have:y=x:=by simpa using q
    rw[this];exact hx
abbrev dR(nr a:D)(ks:List Cell)(vs:List Int)(x3 x4 x5 x6:Option Sl):aY:=[fz nr,fz a,some (.ow (.dct (ks.map keyOf) (vs.map D.int))),x3,x4,x5,x6]
def EO:DS:=(cB [6] (fN (yd (cf (d2 (eu true) (dV 6) (dV 2)))) (av (fG 2 (dV 6) (Je (d2 c0 (d2 jX (dV 2) (dV 5)) (dC (.int 1))))) (jf 4 (dV 6))) cC))
theorem CF{S:List Cell}(rm:S.length≤64){nr a:D}{c x:Cell}{r:Option Sl}{s:Bk Cell}(h:Sok S s)(hc:c∈s.ks){vs:List Int}(hv:s.ks.length=vs.length):
 ∃vs',(cj c s x).ks.length=vs'.length∧EO (dR nr a s.ks vs r (some (.ow (.lst (s.fu.map cD)))) (fz (cD c)) (fz (cD x)))=M.ret (.nx (dR nr a (cj c s x).ks vs' r (some (.ow (.lst ((cj c s x).fu.map cD)))) (fz (cD c)) none)):=by
 have hle:s.ks.length≤S.length:=c6 h.nd h.on
 have ht:yd (cf (d2 (eu true) (dV 6) (dV 2))) (dR nr a s.ks vs r (some (.ow (.lst (s.fu.map cD)))) (fz (cD c)) (fz (cD x)))=M.ret (!decide (x∈s.ks)):=
  ye (fj ((aP (x:=cD x) (y:= .dct (s.ks.map keyOf) (vs.map D.int)) rfl rfl).trans (iW (neg:=true) (by rw[List.length_map];exact hv))))
 by_cases hx:x∈s.ks
 ·rw[decide_eq_true hx] at ht
  have e:cj c s x=s:=if_pos hx
  rw[e]
  exact⟨vs,hv,(bg (c8 ht rfl)).trans rfl⟩
 ·rw[decide_eq_false hx] at ht
  have e:cj c s x=⟨s.ks++[x],s.ps++[some c],s.fu++[x]⟩:=if_neg hx
  rw[e]
  obtain⟨i,hi⟩:=CY hv hc
  have hp:je (.dct (s.ks.map keyOf) (vs.map D.int)) (cD x) (.int (i+1))=some (.dct ((s.ks++[x]).map keyOf) ((vs++[i+1]).map D.int)):=by
   rw[oQ hx (by rw[List.length_map,←hv,c5];omega),List.map_append (f:=D.int)]
   rfl
  refine⟨vs++[i+1],by simp[hv],(bg (ρ':=dR nr a (s.ks++[x]) (vs++[i+1]) r (some (.ow (.lst ((s.fu++[x]).map cD)))) (fz (cD c)) (fz (cD x))) (eC ht (ai (ρ':=dR nr a (s.ks++[x]) (vs++[i+1]) r (some (.ow (.lst (s.fu.map cD)))) (fz (cD c)) (fz (cD x))) ((BC (c:= .dct (s.ks.map keyOf) (vs.map D.int)) (k:=cD x) (d:= .int (i+1)) rfl (Hh ((aP (x:= .int i) (y:= .int 1) ((aP (x:= .dct (s.ks.map keyOf) (vs.map D.int)) (y:=cD c) rfl rfl).trans hi) rfl).trans rfl) rfl) rfl hp).trans rfl) ?_))).trans rfl⟩
  show (if (s.fu.map cD).length<lim then M.ret (Out.nx (dR nr a (s.ks++[x]) (vs++[i+1]) r (some (.ow (.lst (s.fu.map cD++[cD x])))) (fz (cD c)) (fz (cD x)))) else M.stuck)=_
  have:=h.fu
  rw[if_pos (by rw[List.length_map,c5];omega),show s.fu.map cD++[cD x]=(s.fu++[x]).map cD by simp]
def bG(S:List Cell)(nb:Cell→List Cell):D:=Lo S fun y=>cL (nb y)
def EN:DS:=(cB [5,6] (er (putN 6) (Av (cO (d2 jX (dV 0) (dV 5))) (fun ρ=>(d2 jX (dV 0) (dV 5)) ρ>>=jl)) EO))
section
variable{S:List Cell}{nb:Cell→List Cell}
theorem yn{c x y:Cell}{s:Bk Cell}(h:y∈s.ks):y∈(cj c s x).ks:=(pS s).mpr (.inl h)
theorem ym{y c:Cell}{s:Bk Cell}(h:y∈s.ks):y∈(fo nb s c).ks:=((foldStep (P:=fun _ _=>True) (nb c) s fun _ _=>trivial).2 y).mpr (.inl h)
theorem CC(rm:S.length≤64)(hS:∀y∈S,∀x∈nb y,x∈S){a:D}{c:Cell}{r:Option Sl}{s:Bk Cell}(h:Sok S s)(hc:c∈s.ks){vs:List Int}(hv:s.ks.length=vs.length):
 Sok S (fo nb s c)∧∃vs',(fo nb s c).ks.length=vs'.length∧EN (dR (bG S nb) a s.ks vs r (some (.ow (.lst (s.fu.map cD)))) (fz (cD c)) none)=M.ret (.nx (dR (bG S nb) a (fo nb s c).ks vs' r (some (.ow (.lst ((fo nb s c).fu.map cD)))) none none)):=by
 have LH:=h.on c hc
 obtain⟨ρ',e,h1,h2,vs',h3,rfl⟩:=rk (put:=putN 6) (body:=EO) cD (fun (s:Bk Cell) ρ=>Sok S s∧c∈s.ks∧∃vs:List Int,s.ks.length=vs.length∧ρ=dR (bG S nb) a s.ks vs r (some (.ow (.lst (s.fu.map cD)))) (fz (cD c)) none) (cj c) (nb c) s _ ⟨h,hc,vs,hv,rfl⟩ fun s ρ ⟨h,hc,vs,hv,e⟩ x hx=>by
  subst e
  obtain⟨vs',h1,h2⟩:=CF (nr:=bG S nb) (a:=a) (x:=x) (r:=r) rm h hc hv
  exact⟨_,_,rfl,h2,h.step (hS c LH x hx),yn hc,vs',h1,rfl⟩
 refine⟨h1,vs',h3,(bg (fF ?_ e)).trans rfl⟩
 have e0:d2 jX (dV 0) (dV 5) (dR (bG S nb) a s.ks vs r (some (.ow (.lst (s.fu.map cD)))) (fz (cD c)) none)=M.ret (cL (nb c)):=(aP (x:=bG S nb) (y:=cD c) rfl rfl).trans (Fu (f:=fun y=>cL (nb y)) LH)
 show orM (cO (d2 jX (dV 0) (dV 5)) _) _=_
 rw[show cO (d2 jX (dV 0) (dV 5)) (dR (bG S nb) a s.ks vs r (some (.ow (.lst (s.fu.map cD)))) (fz (cD c)) none)=M.ret ((nb c).map cD) by
  show (d2 jX (dV 0) (dV 5) _>>=lstM)=_
  rw[e0]
  rfl]
 rfl
def Hk:DS:=(cB [4,5,6] (av (oT 4) (av (er (putN 5) (cO (dV 3)) EN) (vr 4 (bB 3 (dV 4))))))
theorem CD(rm:S.length≤64)(hS:∀y∈S,∀x∈nb y,x∈S){a:D}{ring:List Cell}{s:Bk Cell}(hr:∀c∈ring,c∈s.ks)(h:Sok S s)(hf:s.fu=[]){vs:List Int}(hv:s.ks.length=vs.length):
 Sok S (bC nb s ring)∧∃vs',(bC nb s ring).ks.length=vs'.length∧Hk (dR (bG S nb) a s.ks vs (fz (.lst (ring.map cD))) none none none)=M.ret (.nx (dR (bG S nb) a (bC nb s ring).ks vs' (fz (.lst ((bC nb s ring).fu.map cD))) none none none)):=by
 obtain⟨ρ',e,h1,h2,vs',h3,rfl⟩:=rk (put:=putN 5) (body:=EN) cD (fun (s:Bk Cell) ρ=>Sok S s∧(∀c∈ring,c∈s.ks)∧∃vs:List Int,s.ks.length=vs.length∧ρ=dR (bG S nb) a s.ks vs (fz (.lst (ring.map cD))) (some (.ow (.lst (s.fu.map cD)))) none none) (fo nb) ring s _ ⟨h,hr,vs,hv,rfl⟩ fun s ρ ⟨h,hr,vs,hv,e⟩ c hc=>by
  subst e
  obtain⟨g1,vs',g2,g3⟩:=CC (nb:=nb) (a:=a) (r:=fz (.lst (ring.map cD))) rm hS h (hr c hc) hv
  exact⟨_,_,rfl,g3,g1,fun c' Cb=>ym (hr c' Cb),vs',g2,rfl⟩
 rw[hf] at e
 refine⟨h1,vs',h3,(bg (ρ':=dR (bG S nb) a (bC nb s ring).ks vs' (fz (.lst ((bC nb s ring).fu.map cD))) (fz (.lst ((bC nb s ring).fu.map cD))) none none) ?_).trans rfl⟩
 refine ai (ρ':=dR (bG S nb) a s.ks vs (fz (.lst (ring.map cD))) (some (.ow (.lst []))) none none) rfl (ai (ρ':=dR (bG S nb) a (bC nb s ring).ks vs' (fz (.lst (ring.map cD))) (some (.ow (.lst ((bC nb s ring).fu.map cD)))) none none) ?_ rfl)
 exact fF rfl e
theorem tG(rm:S.length≤64)(hS:∀y∈S,∀x∈nb y,x∈S){a:Cell}(ha:a∈S):∀(fuel k:Nat) (ks:List Cell) (ps:List (Option Cell)) (ring:List Cell) (vs:List Int),S.length+2≤fuel+k→Rng nb a k ks ps ring→(∀x∈ks,x∈S)→ks.length=vs.length→
 ∃k' ks' EB vs',Rng nb a k' ks' EB []∧(∀x∈ks',x∈S)∧ks'.length=vs'.length∧dX (bN (dV 3)) Hk fuel (dR (bG S nb) (cD a) ks vs (fz (.lst (ring.map cD))) none none none)=M.ret (.nx (dR (bG S nb) (cD a) ks' vs' (fz (.lst [])) none none none))
 |0,k,ks,ps,ring,vs,hf,hR,eO,hv=>by
  have h1:ks.length≤S.length:=c6 hR.nd eO
  have:=hR.sz.1
  omega
 |fuel+1,k,ks,ps,[],vs,hf,hR,eO,hv=>⟨k,ks,ps,vs,hR,eO,hv,vb rfl⟩
 |fuel+1,k,ks,ps,c::ring,vs,hf,hR,eO,hv=>by
  have hN:=hR.next (by simp)
  have HU:∀x∈c::ring,x∈ks:=fun x hx=>(hR.mem x).mpr ((hR.rg x).mp hx).1
  obtain⟨hb,Of,NP,e⟩:=CD (nb:=nb) (a:=cD a) rm hS (s:=⟨ks,ps,[]⟩) HU ⟨hR.len,hR.nd,eO,Nat.zero_le _⟩ rfl hv
  obtain⟨k',ks',EB,vs',q1,q2,q3,q4⟩:=tG rm hS ha fuel (k+1) _ _ _ Of (by omega) hN hb.on NP
  exact⟨k',ks',EB,vs',q1,q2,q3,vc rfl e q4⟩
theorem pw(rm:S.length≤64)(hS:∀y∈S,∀x∈nb y,x∈S){a:Cell}(ha:a∈S):
 ∃(ks:List Cell) (vs:List Int),ks.Nodup∧(∀x∈ks,x∈S)∧(∀x,x∈ks↔∃j,Rb nb a j x)∧ks.length=vs.length∧d6 [bG S nb,cD a]=M.ret (.dct (ks.map keyOf) (vs.map D.int)):=by
 obtain⟨k,ks,ps,vs,h1,h2,h3,h4⟩:=tG (nb:=nb) rm hS ha lim 0 [a] [none] [a] [0] (by rw[c5];omega) (Rng.zero _ _) (fun x hx=>(show x=a by simpa using hx)▸ha) rfl
 refine⟨ks,vs,h1.nd,h2,h1.last,h3,aT (ai (ρ':=dR (bG S nb) (cD a) [a] [0] none none none none) rfl (ai (ρ':=dR (bG S nb) (cD a) [a] [0] (fz (.lst [cD a])) none none none) rfl (ai (ρ':=dR (bG S nb) (cD a) ks vs (fz (.lst [])) none none none) (dE h4) rfl)))⟩
end
end K1
namespace K1
open PySem PySem.Spec L2 L3
open PyProof.Rows hiding St
section
variable{nb:Cell→List Cell}
theorem nJ{a c b:Cell}(h:c∈nb a):∀{j:Nat},Rb nb c j b→Rb nb a (j+1) b
 |0,q=> .inr ⟨a,rfl,(show b=c from q)▸h⟩
 |j+1,q=>q.elim (fun q=> .inl (nJ h q)) fun⟨y,q1,q2⟩=> .inr ⟨y,nJ h q1,q2⟩
theorem nK{a b c:Cell}{i:Nat}(h:Rb nb a i b):∀{j:Nat},Rb nb b j c→Rb nb a (i+j) c
 |0,q=>(show c=b from q)▸h
 |j+1,q=>q.elim (fun q=> .inl (nK h q)) fun⟨y,q1,q2⟩=> .inr ⟨y,nK h q1,q2⟩
theorem qa{P:Cell→Prop}(hP:∀y,P y→∀x∈nb y,P x){a b:Cell}(ha:P a):∀{j:Nat},Rb nb a j b→P b
 |0,q=>(show b=a from q)▸ha
 |j+1,q=>q.elim (fun q=>qa hP ha q) fun⟨y,q1,q2⟩=>hP y (qa hP ha q1) b q2
theorem rl{P:Cell→Prop}(hP:∀y,P y→∀x∈nb y,P x)(hs:∀y,P y→∀x∈nb y,y∈nb x){a b:Cell}(ha:P a):∀{j:Nat},Rb nb a j b→Rb nb b j a
 |0,q=>(show b=a from q).symm
 |j+1,q=>q.elim (fun q=> .inl (rl hP hs ha q)) fun⟨y,q1,q2⟩=>nJ (hs y (qa hP ha q1) b q2) (rl hP hs ha q1)
end
def kN(R W w:Nat)(S:List Cell)(y:Cell):List Cell:=(eB R W w y).filter fun x=>decide (x∈S)
theorem gK{R W w:Nat}(hw:Ways w){S:List Cell}{x y:Cell}:x∈kN R W w S y↔On R W x∧mK w y x=true∧x∈S:=by
 unfold kN
 rw[List.mem_filter,i3 hw,decide_eq_true_eq,and_assoc]
def CnS(R W w:Nat)(S:List Cell)(a b:Cell):Prop:=∃j,Rb (kN R W w S) a j b
section
open Classical
variable{bd:List Str}{W w:Nat}{S:List Cell}{R:Nat}
theorem v3(hw:Ways w):∀y,y∈S→∀x∈kN R W w S y,x∈S:=fun y _ x hx=>((gK hw).mp hx).2.2
theorem FI(hw:Ways w)(eO:∀y∈S,On R W y):∀y,y∈S→∀x∈kN R W w S y,y∈kN R W w S x:=fun y hy x hx=>(gK hw).mpr ⟨eO y hy,by rw[uk];exact((gK hw).mp hx).2.1,hy⟩
theorem CnS.refl{a:Cell}:CnS R W w S a a:=⟨0,rfl⟩
theorem CnS.trans{a b c:Cell}(h:CnS R W w S a b)(h2:CnS R W w S b c):CnS R W w S a c:=let ⟨i,p⟩:=h;let ⟨j,q⟩:=h2;⟨i+j,nK p q⟩
theorem CnS.symm(hw:Ways w)(eO:∀y∈S,On R W y){a b:Cell}(ha:a∈S)(h:CnS R W w S a b):CnS R W w S b a:=let ⟨j,q⟩:=h;⟨j,rl (v3 hw) (FI hw eO) ha q⟩
theorem CnS.mem(hw:Ways w){a b:Cell}(ha:a∈S)(h:CnS R W w S a b):b∈S:=let ⟨_,q⟩:=h;qa (P:=(· ∈S)) (v3 hw) ha q
def Cm(R W w:Nat)(S:List Cell)(x:Cell):Prop:=∀y,CnS R W w S x y→rank W x≤rank W y
noncomputable def fX(R W w:Nat)(S t:List Cell):List Cell:=t.filter fun x=>decide (Cm R W w S x)
theorem foldl_addK:∀(l t:List Cell),(t++l).Nodup→l.foldl bM t=t++l
 |[],t,_=>by simp
 |x::l,t,h=>by
  have hx:x∉t:=fun q=>(List.nodup_append.mp h).2.2 x q x (List.mem_cons_self ..) rfl
  rw[List.foldl_cons,show bM t x=t++[x] from if_neg hx,foldl_addK l (t++[x]) (by rw[List.append_assoc];exact h),List.append_assoc]
  rfl
def N7:DS:=(cB [5] (fG 4 (dV 5) (bt 0 (cO (ak 3 a7 (aC (dV 0) (aC (dV 5) (aC (dV 2) aN))))) (cf (d2 (eu false) (dV 0) (dV 4))) (dV 0))))
theorem AO(hg:Brd bd W)(hw:Ways w)(hn:S.Nodup)(eO:∀y∈S,On bd.length W y):eD [brd bd,cL S, .int (w:Int)]=M.ret (bG S (kN bd.length W w S)):=by
 have hm:bd.length*W≤64:=Nat.mul_le_mul hg.r8 hg.w8
 have rm:S.length≤64:=by
  have:=c6 hn fun x hx=>aO.mpr (eO x hx)
  rw[cu] at this
  omega
 obtain⟨_,e⟩:=iV (put:=putN 5) (body:=N7) cD (fun t:List Cell=>[fz (brd bd),fz (cL S),fz (.int (w:Int)),fz (hZ S),some (.ow (CB t fun y=>cL (kN bd.length W w S y))),none]) bM (fun t=>t.Nodup∧∀y∈t,y∈S) S [] ⟨List.nodup_nil,fun _ h=>by cases h⟩ fun t ⟨h1,h2⟩ x hx=>by
  have hl:=c6 h1 h2
  refine⟨⟨(jj [x] t).1 h1,fun y hy=>(s9.mp hy).elim (h2 y) fun q=>q▸hx⟩,_,rfl,?_⟩
  refine(bg (ρ':=[fz (brd bd),fz (cL S),fz (.int (w:Int)),fz (hZ S),some (.ow (CB (bM t x) fun y=>cL (kN bd.length W w S y))),fz (cD x)]) ?_).trans rfl
  refine(DK (x:=x) (d:=cL (kN bd.length W w S x)) rfl (b9 (ds:=(eB bd.length W w x).map cD) (CU ((aj (ds:=[brd bd,cD x, .int (w:Int)]) rfl rfl).trans (fc hg hw (eO x hx)))) (eM cD _ _ fun y hy=>?_) ?_) rfl (by rw[c5];omega)).trans ?_
  ·rw[m9,fj (b:=decide (y∈S)) ((aP (x:=cD y) (y:=hZ S) rfl rfl).trans ((iW (neg:=false) (by simp[aG])).trans (by rw[if_neg (by decide)];congr 2;rw[decide_eq_decide];exact dj))),ao]
   cases decide (y∈S)<;>rfl
  ·rw[List.length_map,c5]
   exact Nat.le_trans (List.length_filter_le ..) (Nat.le_trans (i1 ..) (by decide))
  ·have:fR (fun y=>cL (kN bd.length W w S y)) x (cL (kN bd.length W w S x))=fun y=>cL (kN bd.length W w S y):=by
    funext y
    unfold fR
    split
    ·rename_i q
     rw[q]
    ·rfl
   rw[this]
   rfl
 rw[foldl_addK S [] (by simpa using hn),List.nil_append] at e
 exact aT (ai (ρ':=[fz (brd bd),fz (cL S),fz (.int (w:Int)),fz (hZ S),none,none]) ((aL ((aj (ds:=[cL S]) rfl rfl).trans (iZ (by omega)))).trans rfl) (ai (ρ':=[fz (brd bd),fz (cL S),fz (.int (w:Int)),fz (hZ S),some (.ow (CB [] fun y=>cL (kN bd.length W w S y))),none]) rfl (ai (dE (fF rfl e)) rfl)))
theorem AH{ks:List Cell}{ds:List D}(h:ks.length≤64):t9 [.dct (ks.map keyOf) ds]=M.ret (cL ks):=by
 show (match dS (ks.map keyOf) with | some ks=>if ks.length≤lim∧ks.all (fun k=>decide (k.length≤lim)) then M.ret (D.lst (ks.map tupI)) else M.stuck | none=>M.stuck)=_
 rw[iY]
 show (if (ks.map ic).length≤lim∧(ks.map ic).all (fun k=>decide (k.length≤lim)) then M.ret (D.lst ((ks.map ic).map tupI)) else M.stuck)=_
 rw[if_pos ⟨by rw[List.length_map,c5];omega,List.all_eq_true.mpr fun k hk=>by obtain⟨c,_,rfl⟩:=List.mem_map.mp hk;rfl⟩,List.map_map]
 rfl
def Mh:DS:=(cB [6,7] (fN (yd (cf (d2 (eu true) (dV 6) (dV 5)))) (av (bB 7 (dA t9 (aC (ak 2 d6 (aC (dV 3) (aC (dV 6) aN))) aN))) (av (jf 4 (dV 7)) (uQ 5 (ak 1 cU (aC (dV 7) aN))))) cC))
abbrev DG(b w nr:D)(S:List Cell)(acc:List D)(ks:List Cell)(x6 x7:Option Sl):aY:=[fz b,fz (cL S),fz w,fz nr,some (.ow (.lst acc)),some (.ow (.dct (ks.map keyOf) (aG ks))),x6,x7]
structure SeenS (R W w:Nat) (S t ks:List Cell):Prop where
 nd:ks.Nodup
 on:∀y∈ks,y∈S
 mem:∀y,y∈ks↔∃m∈t,CnS R W w S m y
theorem p_(t:List Cell)(x:Cell):fX R W w S (t++[x])=if Cm R W w S x then fX R W w S t++[x] else fX R W w S t:=by
 unfold fX
 rw[List.filter_append]
 by_cases h:Cm R W w S x
 ·rw[if_pos h,List.filter_cons_of_pos (by rw[decide_eq_true_eq];exact h),List.filter_nil]
 ·rw[if_neg h,List.filter_cons_of_neg (by rw[decide_eq_true_eq];exact h),List.filter_nil,List.append_nil]
theorem DI(hg:Brd bd W)(hs:bd.length*W<64)(hw:Ways w)(hS:RiseC S)(eO:∀y∈S,On bd.length W y){t r ks:List Cell}{x:Cell}{acc:List D}(e:t++x::r=S)(h:SeenS bd.length W w S t ks)(ha:acc.length=(fX bd.length W w S t).length):
 ∃zI ks',SeenS bd.length W w S (t++[x]) ks'∧zI.length=(fX bd.length W w S (t++[x])).length∧Mh (DG (brd bd) (.int (w:Int)) (bG S (kN bd.length W w S)) S acc ks (fz (cD x)) none)=M.ret (.nx (DG (brd bd) (.int (w:Int)) (bG S (kN bd.length W w S)) S zI ks' none none)):=by
 have Js:x∈S:=by rw[←e];simp
 have hx:=eO x Js
 have hn:=RiseC.nodup hS
 have hl:S.length≤bd.length*W:=gr hn eO
 have rm:S.length≤64:=by omega
 have nP:=hS
 rw[←e] at nP
 have LZ:∀y∈t,y∈S:=fun y hy=>by rw[←e];simp[hy]
 have ro:∀y∈t,rank W y<rank W x:=fun y hy=>(d5 (eO y (LZ y hy)) hx).mp ((List.pairwise_append.mp nP).2.2 y hy x (List.mem_cons_self ..))
 have vQ:∀y∈r,rank W x<rank W y:=fun y hy=>(d5 hx (eO y (by rw[←e];simp[hy]))).mp ((List.pairwise_cons.mp (List.pairwise_append.mp nP).2.1).1 y hy)
 have Ni:ks.length≤64:=by have:=c6 h.nd h.on;omega
 have Ek:acc.length≤64:=by
  rw[ha]
  have h1:(fX bd.length W w S t).length≤t.length:=by unfold fX;exact List.length_filter_le ..
  have h2:t.length≤S.length:=by rw[←e,List.length_append];omega
  omega
 have ht:yd (cf (d2 (eu true) (dV 6) (dV 5))) (DG (brd bd) (.int (w:Int)) (bG S (kN bd.length W w S)) S acc ks (fz (cD x)) none)=M.ret (!decide (x∈ks)):=
  ye (fj ((aP (x:=cD x) (y:= .dct (ks.map keyOf) (aG ks)) rfl rfl).trans (iW (neg:=true) (by simp[aG]))))
 by_cases hk:x∈ks
 ·rw[decide_eq_true hk] at ht
  obtain⟨m,hm,hc⟩:=(h.mem x).mp hk
  have hf:¬Cm bd.length W w S x:=fun q=>by
   have:=q m (hc.symm hw eO (LZ m hm))
   have:=ro m hm
   omega
  refine⟨acc,ks,⟨h.nd,h.on,fun y=>?_⟩,by rw[p_,if_neg hf];exact ha,(bg (c8 ht rfl)).trans rfl⟩
  rw[h.mem y]
  constructor
  ·rintro⟨m,hm,q⟩
   exact⟨m,by simp[hm],q⟩
  ·rintro⟨n,CN,q⟩
   rcases List.mem_append.mp CN with z | z
   ·exact⟨n,z,q⟩
   ·rw[List.mem_singleton.mp z] at q
    exact⟨m,hm,hc.trans q⟩
 ·rw[decide_eq_false hk] at ht
  have hf:Cm bd.length W w S x:=fun y hy=>by
   have L4:=hy.mem hw Js
   rw[←e] at L4
   rcases List.mem_append.mp L4 with q | q
   ·exact absurd ((h.mem x).mpr ⟨y,q,hy.symm hw eO Js⟩) hk
   ·rcases List.mem_cons.mp q with q | q
    ·rw[q];exact Nat.le_refl _
    ·exact Nat.le_of_lt (vQ y q)
  obtain⟨l,vs,l1,l2,l3,l4,l5⟩:=pw (nb:=kN bd.length W w S) rm (v3 hw) Js
  have Nn:l.length≤64:=by have:=c6 l1 l2;omega
  refine⟨acc++[cL l],(bo l).foldl bM ks,⟨tM h.nd,fun y hy=>?_,fun y=>?_⟩,by rw[p_,if_pos hf,List.length_append,List.length_append,ha];rfl,?_⟩
  ·rcases((jj (bo l) ks).2.1 y).mp hy with q | q
   ·exact h.on y q
   ·exact l2 y (dj.mp q)
  ·rw[(jj (bo l) ks).2.1 y,dj,h.mem y,l3 y]
   constructor
   ·rintro(⟨m,hm,q⟩ | q)
    ·exact⟨m,by simp[hm],q⟩
    ·exact⟨x,by simp,q⟩
   ·rintro⟨m,hm,q⟩
    rcases List.mem_append.mp hm with z | z
    ·exact .inl ⟨m,z,q⟩
    ·rw[List.mem_singleton.mp z] at q;exact .inr q
  ·refine(bg (ρ':=DG (brd bd) (.int (w:Int)) (bG S (kN bd.length W w S)) S (acc++[cL l]) ((bo l).foldl bM ks) (fz (cD x)) (fz (cL l))) (eC ht (ai (ρ':=DG (brd bd) (.int (w:Int)) (bG S (kN bd.length W w S)) S acc ks (fz (cD x)) (fz (cL l))) ((aL ((b8 (aU ((aj (ds:=[bG S (kN bd.length W w S),cD x]) rfl rfl).trans l5) rfl)).trans (AH Nn))).trans rfl) (ai (ρ':=DG (brd bd) (.int (w:Int)) (bG S (kN bd.length W w S)) S (acc++[cL l]) ks (fz (cD x)) (fz (cL l))) ?_ ?_)))).trans rfl
   ·show (if acc.length<lim then M.ret (Out.nx _) else M.stuck)=_
    rw[if_pos (by rw[c5];omega)]
    rfl
   ·exact(u_ (ks:=ks) (l:=l) rfl ((aj (ds:=[cL l]) rfl rfl).trans (iZ (by omega))) (by omega) (fun _=>rn hg.r8 hg.w8 (ug _) fun y hy=>eO y (l2 y (dj.mp hy)))).trans rfl
theorem xX(hg:Brd bd W)(hs:bd.length*W<64)(hw:Ways w)(hS:RiseC S)(eO:∀y∈S,On bd.length W y):∀(r t ks:List Cell) (acc:List D),t++r=S→SeenS bd.length W w S t ks→acc.length=(fX bd.length W w S t).length→
 ∃zI ks',zI.length=(fX bd.length W w S S).length∧forL (putN 6) Mh (r.map cD) (DG (brd bd) (.int (w:Int)) (bG S (kN bd.length W w S)) S acc ks none none)=M.ret (.nx (DG (brd bd) (.int (w:Int)) (bG S (kN bd.length W w S)) S zI ks' none none))
 |[],t,ks,acc,e,h,ha=>by
  rw[List.append_nil] at e
  subst e
  exact⟨acc,ks,ha,rfl⟩
 |x::r,t,ks,acc,e,h,ha=>by
  obtain⟨a1,k1,h1,h2,h3⟩:=DI hg hs hw hS eO e h ha
  obtain⟨a2,k2,g1,g2⟩:=xX hg hs hw hS eO r (t++[x]) k1 a1 (by rw[List.append_assoc];exact e) h1 h2
  exact⟨a2,k2,g1,(dQ rfl h3).trans g2⟩
theorem zd(hg:Brd bd W)(hs:bd.length*W<64)(hw:Ways w)(hS:RiseC S)(eO:∀y∈S,On bd.length W y):∃ds:List D,ds.length=(fX bd.length W w S S).length∧gF [brd bd,cL S, .int (w:Int)]=M.ret (.lst ds):=by
 obtain⟨acc,ks,h1,h2⟩:=xX hg hs hw hS eO S [] [] [] rfl ⟨List.nodup_nil,(fun _ h=>by cases h),fun y=>by simp⟩ rfl
 exact⟨acc,h1,aT (ai (ρ':=[fz (brd bd),fz (cL S),fz (.int (w:Int)),fz (bG S (kN bd.length W w S)),none,none,none,none]) ((aL ((aj (ds:=[brd bd,cL S, .int (w:Int)]) rfl rfl).trans (AO hg hw (RiseC.nodup hS) eO))).trans rfl) (ai (ρ':=[fz (brd bd),fz (cL S),fz (.int (w:Int)),fz (bG S (kN bd.length W w S)),some (.ow (.lst [])),none,none,none]) rfl (ai (ρ':=DG (brd bd) (.int (w:Int)) (bG S (kN bd.length W w S)) S [] [] none none) rfl (ai (dE (fF rfl h2)) rfl))))⟩
end
section
open Classical
variable{bd:List Str}{W w:Nat}
theorem C7:(b_ bd W w (aH bd.length W)).Nodup:=by
 unfold b_
 exact(RiseC.nodup (cN _ _)).filter _
theorem ub{l:List Cell}{m:Cell}:m∈b_ bd W w l↔m∈l∧Least bd W w m m:=by
 unfold b_
 rw[List.mem_filter,decide_eq_true_eq]
theorem t7(hw:Ways w){m x:Cell}(hm:m∈b_ bd W w (aH bd.length W))(hx:x∈aA bd W w m):Least bd W w x m:=
 (ub.mp hm).2.move hw (d_ hm) (((cI hw (d_ hm)).mem x).mp hx)
theorem xj{f:Cell→List Cell}:∀l:List Cell,l.Nodup→(∀a∈l,(f a).Nodup)→(∀a∈l,∀b∈l,∀x,x∈f a→x∈f b→a=b)→(l.flatMap f).Nodup
 |[],_,_,_=>List.nodup_nil
 |a::l,h1,h2,h3=>by
  rw[List.flatMap_cons,List.nodup_append]
  obtain⟨g1,g2⟩:=List.nodup_cons.mp h1
  refine⟨h2 a (List.mem_cons_self ..),xj l g2 (fun b hb=>h2 b (List.mem_cons_of_mem _ hb)) fun b hb c hc=>h3 b (List.mem_cons_of_mem _ hb) c (List.mem_cons_of_mem _ hc),fun x hx y hy e=>?_⟩
  subst e
  obtain⟨b,hb,q⟩:=List.mem_flatMap.mp hy
  have:=h3 a (List.mem_cons_self ..) b (List.mem_cons_of_mem _ hb) x hx q
  subst this
  exact g1 hb
variable{c:Nat}
end
section
open Classical
variable{bd:List Str}{W w:Nat}
theorem el{n1 n2:Cell→List Cell}{Q:Cell→Prop}(hQ:∀u,Q u→∀z,z∈n1 u↔z∈n2 u)(hc:∀u,Q u→∀z∈n1 u,Q z){a:Cell}(ha:Q a):∀{j:Nat}{z:Cell},Rb n1 a j z↔Rb n2 a j z
 |0,z=>Iff.rfl
 |j+1,z=>by
  constructor
  ·rintro(q | ⟨y,q1,q2⟩)
   ·exact .inl ((el hQ hc ha).mp q)
   ·exact .inr ⟨y,(el hQ hc ha).mp q1,(hQ y (qa hc ha q1) z).mp q2⟩
  ·rintro(q | ⟨y,q1,q2⟩)
   ·exact .inl ((el hQ hc ha).mpr q)
   ·have:=(el hQ hc ha).mpr q1
    exact .inr ⟨y,this,(hQ y (qa hc ha this) z).mpr q2⟩
noncomputable def a5(bd:List Str)(W w:Nat)(x:Cell):List Cell:=(aA bd W w x).filter fun y=>!decide (y=x)
noncomputable def gO(bd:List Str)(W w:Nat)(x:Cell):Nat:=(fX bd.length W w (a5 bd W w x) (a5 bd W w x)).length
theorem cw(hw:Ways w){x y:Cell}(hx:On bd.length W x):y∈aA bd W w x↔Cn bd W w x y:=(cI hw hx).mem y
theorem a_(hw:Ways w){x y:Cell}(hx:On bd.length W x):y∈a5 bd W w x↔Cn bd W w x y∧y≠x:=by
 unfold a5
 rw[List.mem_filter,cw hw hx]
 simp
theorem sr(hw:Ways w){x:Cell}(hx:On bd.length W x):∀y∈a5 bd W w x,On bd.length W y:=fun y hy=>((a_ hw hx).mp hy).1.on hw hx
theorem lu(hw:Ways w){x:Cell}(hx:On bd.length W x):RiseC (a5 bd W w x):=(cI hw hx).rise.filter _
theorem ze(hw:Ways w){m x:Cell}(hm:On bd.length W m)(h:Cn bd W w m x):aA bd W w m=aA bd W w x:=by
 unfold aA
 refine List.filter_congr fun y _=>?_
 rw[decide_eq_decide]
 exact⟨fun q=>(h.symm hw hm).trans q,fun q=>h.trans q⟩
section
variable{nb:List Str}{x:Cell}
structure Lone (bd nb:List Str) (W:Nat) (x:Cell):Prop where
 len:nb.length=bd.length
 on:On bd.length W x
 at':∀y,On bd.length W y→lt nb y=if y=x then 101 else lt bd y
 ne:∀y,On bd.length W y→lt bd y≠101
theorem Lone.like(h:Lone bd nb W x)(hw:Ways w){u z:Cell}(hu:On bd.length W u)(Ku:u≠x):z∈aJ nb W w u↔z∈aJ bd W w u∧z≠x:=by
 rw[bz hw,bz hw,h.len,h.at' u hu,if_neg Ku]
 constructor
 ·rintro⟨h1,h2,h3⟩
  rw[h.at' z h1] at h3
  split at h3
  ·exact absurd h3.symm (h.ne u hu)
  ·rename_i q
   exact⟨⟨h1,h2,h3⟩,q⟩
 ·rintro⟨⟨h1,h2,h3⟩,h4⟩
  exact⟨h1,h2,by rw[h.at' z h1,if_neg h4];exact h3⟩
theorem Lone.self(h:Lone bd nb W x)(hw:Ways w){z:Cell}:∀{j:Nat},Rb (aJ nb W w) x j z→z=x
 |0,q=>q
 |j+1,q=>q.elim (fun q=>h.self hw q) fun⟨y,q1,q2⟩=>by
  have e:=h.self hw q1
  subst e
  have:=(bz hw).mp q2
  rw[h.len] at this
  rw[h.at' y h.on,if_pos rfl,h.at' z this.1] at this
  by_cases q:z=y
  ·exact q
  ·rw[if_neg q] at this
   exact absurd this.2.2 (h.ne z this.1)
theorem Lone.cn_out(h:Lone bd nb W x)(hw:Ways w){y z:Cell}(hy:On bd.length W y)(hn:¬Cn bd W w x y):Cn nb W w y z↔Cn bd W w y z:=by
 have hQ:∀u,(On bd.length W u∧¬Cn bd W w x u)→∀z,z∈aJ nb W w u↔z∈aJ bd W w u:=fun u ⟨h1,h2⟩ z=>by
  have Ku:u≠x:=fun q=>h2 (q▸Cn.refl)
  rw[h.like hw h1 Ku]
  refine⟨fun q=>q.1,fun q=>⟨q,fun e=>h2 ?_⟩⟩
  subst e
  exact(Cn.refl:Cn bd W w z z).step (gH hw h1 q)
 have hc:∀u,(On bd.length W u∧¬Cn bd W w x u)→∀z∈aJ nb W w u,On bd.length W z∧¬Cn bd W w x z:=fun u hu z hz=>by
  have hz:=(hQ u hu z).mp hz
  have NX:=((bz hw).mp hz).1
  exact⟨NX,fun q=>hu.2 (q.step (gH hw hu.1 hz))⟩
 exact⟨fun ⟨j,q⟩=>⟨j,(el hQ hc ⟨hy,hn⟩).mp q⟩,fun⟨j,q⟩=>⟨j,(el hQ hc ⟨hy,hn⟩).mpr q⟩⟩
theorem Lone.cn_in(h:Lone bd nb W x)(hw:Ways w){y z:Cell}(hy:y∈a5 bd W w x):Cn nb W w y z↔CnS bd.length W w (a5 bd W w x) y z:=by
 have hQ:∀u,u∈a5 bd W w x→∀z,z∈aJ nb W w u↔z∈kN bd.length W w (a5 bd W w x) u:=fun u hu z=>by
  have Cj:=(a_ hw h.on).mp hu
  have Kt:=Cj.1.on hw h.on
  rw[h.like hw Kt Cj.2,bz hw,gK hw,a_ hw h.on]
  constructor
  ·rintro⟨⟨h1,h2,h3⟩,h4⟩
   exact⟨h1,h2,Cj.1.step ((bz hw).mpr ⟨h1,h2,h3⟩),h4⟩
  ·rintro⟨h1,h2,h3,h4⟩
   exact⟨⟨h1,h2,(h3.letter hw).trans (Cj.1.letter hw).symm⟩,h4⟩
 have hc:∀u,u∈a5 bd W w x→∀z∈aJ nb W w u,z∈a5 bd W w x:=fun u hu z hz=>((gK hw).mp ((hQ u hu z).mp hz)).2.2
 exact⟨fun ⟨j,q⟩=>⟨j,(el hQ hc hy).mp q⟩,fun⟨j,q⟩=>⟨j,(el hQ hc hy).mpr q⟩⟩
theorem split_len{α:Type}(p q:α→Bool):∀l:List α,(l.filter p).length=(l.filter fun y=>p y&&q y).length+(l.filter fun y=>p y&& !q y).length
 |[]=>rfl
 |a::l=>by
  have ih:=split_len p q l
  rw[List.filter_cons,List.filter_cons,List.filter_cons]
  cases h1:p a<;>cases h2:q a<;>simp_all<;>omega
theorem Lone.many(h:Lone bd nb W x)(hw:Ways w):(bZ nb W w).length=(bZ bd W w).length+gO bd W w x:=by
 obtain⟨L,hL⟩:=kY (bd:=bd) (W:=W) hw
 have hm:=hL x h.on
 have HN:=hm.on hw h.on
 unfold bZ
 rw[List.length_map,List.length_map,h.len]
 unfold b_
 rw[split_len (fun y=>decide (Least nb W w y y)) (fun y=>decide (Cn bd W w x y)),split_len (fun y=>decide (Least bd W w y y)) (fun y=>decide (Cn bd W w x y))]
 have e1:(aH bd.length W).filter (fun y=>decide (Least nb W w y y)&& !decide (Cn bd W w x y))=(aH bd.length W).filter (fun y=>decide (Least bd W w y y)&& !decide (Cn bd W w x y)):=by
  refine List.filter_congr fun y hy=>?_
  have hy:=aO.mp hy
  by_cases q:Cn bd W w x y
  ·rw[decide_eq_true q];simp
  ·have:Least nb W w y y↔Least bd W w y y:=by
    unfold Least
    exact⟨fun ⟨_,g⟩=>⟨Cn.refl,fun z hz=>g z ((h.cn_out hw hy q).mpr hz)⟩,fun⟨_,g⟩=>⟨Cn.refl,fun z hz=>g z ((h.cn_out hw hy q).mp hz)⟩⟩
   rw[decide_eq_decide.mpr this]
 have e2:(aH bd.length W).filter (fun y=>decide (Least bd W w y y)&&decide (Cn bd W w x y))=[L x]:=by
  refine eQ ((cN _ _).filter _) (List.pairwise_singleton ..) fun y=>?_
  rw[List.mem_filter,aO,List.mem_singleton,Bool.and_eq_true,decide_eq_true_eq,decide_eq_true_eq]
  constructor
  ·rintro⟨h1,h2,h3⟩
   exact(h2.move hw h1 (h3.symm hw h.on)).one hw h.on hm
  ·rintro rfl
   exact⟨HN,hm.self hw h.on,hm.1⟩
 have e3:((aH bd.length W).filter (fun y=>decide (Least nb W w y y)&&decide (Cn bd W w x y))).length=1+gO bd W w x:=by
  rw[split_len _ (fun y=>decide (y=x))]
  have f1:(aH bd.length W).filter (fun y=>(decide (Least nb W w y y)&&decide (Cn bd W w x y))&&decide (y=x))=[x]:=by
   refine eQ ((cN _ _).filter _) (List.pairwise_singleton ..) fun y=>?_
   rw[List.mem_filter,aO,List.mem_singleton,Bool.and_eq_true,decide_eq_true_eq]
   constructor
   ·rintro⟨_,_,q⟩
    exact q
   ·rintro rfl
    refine⟨h.on,?_,rfl⟩
    rw[Bool.and_eq_true,decide_eq_true_eq,decide_eq_true_eq]
    exact⟨⟨Cn.refl,fun z ⟨j,q⟩=>by rw[h.self hw q];exact Nat.le_refl _⟩,Cn.refl⟩
  have f2:(aH bd.length W).filter (fun y=>(decide (Least nb W w y y)&&decide (Cn bd W w x y))&& !decide (y=x))=fX bd.length W w (a5 bd W w x) (a5 bd W w x):=by
   refine eQ ((cN _ _).filter _) ((lu hw h.on).filter _) fun y=>?_
   unfold fX
   rw[List.mem_filter,List.mem_filter,aO,a_ hw h.on]
   simp only[Bool.and_eq_true,decide_eq_true_eq,Bool.not_eq_true',decide_eq_false_iff_not]
   constructor
   ·rintro⟨h1,⟨h2,h3⟩,h4⟩
    exact⟨⟨h3,h4⟩,fun z hz=>h2.2 z ((h.cn_in hw ((a_ hw h.on).mpr ⟨h3,h4⟩)).mpr hz)⟩
   ·rintro⟨⟨h3,h4⟩,h5⟩
    exact⟨h3.on hw h.on,⟨⟨Cn.refl,fun z hz=>h5 z ((h.cn_in hw ((a_ hw h.on).mpr ⟨h3,h4⟩)).mp hz)⟩,h3⟩,h4⟩
  rw[f1,f2]
  rfl
 rw[e1,e2,e3]
 show 1+gO bd W w x+_=1+_+gO bd W w x
 omega
end
theorem EZ(hw:Ways w){S:List Cell}{R:Nat}{x:Cell}(hx:x∈S):∃y,y∈fX R W w S S:=by
 have:∀n (x:Cell),x∈S→rank W x≤n→∃y,y∈fX R W w S S:=by
  intro n
  induction n with
  |zero=>
   intro x hx hr
   exact⟨x,List.mem_filter.mpr ⟨hx,decide_eq_true fun y _=>by omega⟩⟩
  |succ n ih=>
   intro x hx hr
   by_cases h:Cm R W w S x
   ·exact⟨x,List.mem_filter.mpr ⟨hx,decide_eq_true h⟩⟩
   ·unfold Cm at h
    obtain⟨y,hy⟩:=Classical.not_forall.mp h
    obtain⟨h1,h2⟩:=Classical.not_imp.mp hy
    exact ih y (h1.mem hw hx) (by omega)
 exact this _ x hx (Nat.le_refl _)
theorem FY(hw:Ways w){x y:Cell}(hx:On bd.length W x)(hy:Cn bd W w x y)(fm:y≠x):1≤gO bd W w x:=by
 obtain⟨z,hz⟩:=EZ (R:=bd.length) (W:=W) hw ((a_ hw hx).mpr ⟨hy,fm⟩)
 exact List.length_pos_of_mem hz
theorem xM(hw:Ways w){x:Cell}(hx:On bd.length W x)(h:∀y,Cn bd W w x y→y=x):gO bd W w x=0:=by
 have:a5 bd W w x=[]:=List.eq_nil_iff_forall_not_mem.mpr fun y hy=>((a_ hw hx).mp hy).2 (h y ((a_ hw hx).mp hy).1)
 unfold gO
 rw[this]
 rfl
theorem Ba(hw:Ways w){x n:Cell}(hx:On bd.length W x)(h:∀y∈a5 bd W w x,CnS bd.length W w (a5 bd W w x) y n):gO bd W w x≤1:=by
 have eO:=sr hw hx
 unfold gO
 have hr:RiseC (fX bd.length W w (a5 bd W w x) (a5 bd W w x)):=(lu hw hx).filter _
 cases hf:fX bd.length W w (a5 bd W w x) (a5 bd W w x) with
 |nil=>exact Nat.zero_le _
 |cons a r=>
  cases r with
  |nil=>exact Nat.le_refl _
  |cons b r=>
   exfalso
   rw[hf] at hr
   have ha:a∈fX bd.length W w (a5 bd W w x) (a5 bd W w x):=by rw[hf];simp
   have hb:b∈fX bd.length W w (a5 bd W w x) (a5 bd W w x):=by rw[hf];simp
   have Jj:=List.mem_filter.mp ha
   have El:=List.mem_filter.mp hb
   have fa:Cm bd.length W w (a5 bd W w x) a:=of_decide_eq_true Jj.2
   have fb:Cm bd.length W w (a5 bd W w x) b:=of_decide_eq_true El.2
   have zA:CnS bd.length W w (a5 bd W w x) a b:=(h a Jj.1).trans ((h b El.1).symm hw eO El.1)
   have h1:=fa b zA
   have h2:=fb a (zA.symm hw eO Jj.1)
   have h3:=(d5 (eO a Jj.1) (eO b El.1)).mp ((List.pairwise_cons.mp hr).1 b (by simp))
   omega
theorem D2(hw:Ways w){x:Cell}(hx:On bd.length W x){y:Cell}(hy:y∈a5 bd W w x):∀{j:Nat},Rb (aJ bd W w) y j x→∃n,n∈aJ bd W w x∧CnS bd.length W w (a5 bd W w x) y n:=by
 have NV:=(a_ hw hx).mp hy
 have key:∀{j:Nat}{z:Cell},Rb (aJ bd W w) y j z→(CnS bd.length W w (a5 bd W w x) y z∧z≠x)∨∃n,n∈aJ bd W w x∧CnS bd.length W w (a5 bd W w x) y n:=by
  intro j
  induction j with
  |zero=>
   intro z q
   rw[show z=y from q]
   exact .inl ⟨CnS.refl,NV.2⟩
  |succ j ih=>
   rintro z (q | ⟨u,q1,q2⟩)
   ·exact ih q
   ·rcases ih q1 with⟨h1,h2⟩ | h
    ·have NM:=h1.mem hw hy
     have hu:=(a_ hw hx).mp NM
     have Kt:=hu.1.on hw hx
     by_cases e:z=x
     ·subst e
      exact .inr ⟨u,gH hw Kt q2,h1⟩
     ·refine .inl ⟨?_,e⟩
      obtain⟨i,h1⟩:=h1
      have hz:=(bz hw).mp q2
      exact⟨i+1, .inr ⟨u,h1,(gK hw).mpr ⟨hz.1,hz.2.1,(a_ hw hx).mpr ⟨hu.1.step q2,e⟩⟩⟩⟩
    ·exact .inr h
 intro j q
 rcases key q with⟨_,h⟩ | h
 ·exact absurd rfl h
 ·exact h
theorem FX(hw:Ways w){x:Cell}(hx:On bd.length W x){l:List Cell}(hl:∀n∈aJ bd W w x,n∈l)(h2:l.length<2):gO bd W w x≤1:=by
 by_cases he:∃y,y∈a5 bd W w x
 ·obtain⟨y,hy⟩:=he
  have get:∀z∈a5 bd W w x,∃n,n∈aJ bd W w x∧CnS bd.length W w (a5 bd W w x) z n:=fun z hz=>by
   obtain⟨j,q⟩:=((a_ hw hx).mp hz).1.symm hw hx
   exact D2 hw hx hz q
  obtain⟨n,hn,_⟩:=get y hy
  refine Ba hw hx (n:=n) fun z hz=>?_
  obtain⟨m,hm,hc⟩:=get z hz
  have:m=n:=by
   match l,h2,hl n hn,hl m hm with
   |[a],_,q1,q2=>rw[List.mem_singleton.mp q1,List.mem_singleton.mp q2]
  exact this▸hc
 ·have:a5 bd W w x=[]:=List.eq_nil_iff_forall_not_mem.mpr fun y hy=>he ⟨y,hy⟩
  unfold gO
  rw[this]
  exact Nat.zero_le _
theorem t5(P:List Cell)(a:Cell)(nb:Cell→List Cell):∀k,(∀z∈P,Rb nb a k z)→(∀z∈P,z=a)∨∃k' y,y∈P∧¬Rb nb a k' y∧∀z∈P,Rb nb a (k'+1) z
 |0,h=> .inl h
 |k+1,h=>by
  by_cases q:∀z∈P,Rb nb a k z
  ·exact t5 P a nb k q
  ·obtain⟨y,hy⟩:=Classical.not_forall.mp q
   obtain⟨h1,h2⟩:=Classical.not_imp.mp hy
   exact .inr ⟨k,y,h1,h2,h⟩
theorem mR{nb:Cell→List Cell}{a:Cell}:∀P:List Cell,(∀z∈P,∃j,Rb nb a j z)→∃k,∀z∈P,Rb nb a k z
 |[],_=>⟨0,fun _ h=>by cases h⟩
 |z::P,h=>by
  obtain⟨j,hj⟩:=h z (List.mem_cons_self ..)
  obtain⟨k,hk⟩:=mR P fun y hy=>h y (List.mem_cons_of_mem _ hy)
  refine⟨max j k,fun y hy=>?_⟩
  rcases List.mem_cons.mp hy with rfl | q
  ·exact Rb.mono (Nat.le_max_left ..) hj
  ·exact Rb.mono (Nat.le_max_right ..) (hk y q)
theorem C9(hw:Ways w){a:Cell}(ha:On bd.length W a):∃y,On bd.length W y∧gO bd W w y≤1:=by
 obtain⟨k,hk⟩:=mR (nb:=aJ bd W w) (a:=a) (aA bd W w a) fun z hz=>(cw hw ha).mp hz
 rcases t5 _ _ _ k hk with h | ⟨k,y,h1,h2,h3⟩
 ·exact⟨a,ha,by rw[xM hw ha fun y hy=>h y ((cw hw ha).mpr hy)];exact Nat.zero_le _⟩
 ·have JX:=(cw hw ha).mp h1
  have GY:=JX.on hw ha
  have L5:=JX.symm hw ha
  refine⟨y,GY,Ba hw GY (n:=a) fun z hz=>?_⟩
  have Ju:=(a_ hw GY).mp hz
  have fm:a≠y:=fun e=>h2 (e▸Rb.mono (Nat.zero_le _) rfl)
  have MT:a∈a5 bd W w y:=(a_ hw GY).mpr ⟨L5,fm⟩
  have key:∀{j:Nat}{z:Cell},j≤k+1→z≠y→Rb (aJ bd W w) a j z→CnS bd.length W w (a5 bd W w y) a z:=by
   intro j
   induction j with
   |zero=>intro z _ _ q;exact(show z=a from q)▸CnS.refl
   |succ j ih=>
    rintro z hj L6 (q | ⟨u,q1,q2⟩)
    ·exact ih (by omega) L6 q
    ·have NO:u≠y:=fun e=>h2 (e▸Rb.mono (by omega) q1)
     obtain⟨i,hi⟩:=ih (by omega) NO q1
     have hz:=(bz hw).mp q2
     exact⟨i+1, .inr ⟨u,hi,(gK hw).mpr ⟨hz.1,hz.2.1,(a_ hw GY).mpr ⟨L5.trans ⟨j+1, .inr ⟨u,q1,q2⟩⟩,L6⟩⟩⟩⟩
  exact(key (Nat.le_refl _) Ju.2 (h3 z ((cw hw ha).mpr (JX.trans Ju.1)))).symm hw (sr hw GY) MT
end
section
open Classical
variable{bd:List Str}{W w:Nat}
theorem yJ(hg:Brd bd W)(hs:bd.length*W<64)(hw:Ways w){x:Cell}(hx:On bd.length W x):aZ [brd bd, .int (w:Int),cL (aA bd W w x),cD x]=M.ret (.bl (decide (1<gO bd W w x))):=by
 obtain⟨ds,h1,h2⟩:=zd hg hs hw (lu hw hx) (sr hw hx)
 have Ca:(aA bd W w x).length≤bd.length*W:=gr (RiseC.nodup (cI hw hx).rise) fun y hy=>((cw hw hx).mp hy).on hw hx
 have cm:bt 0 (cO (dV 2)) (cf (d2 kR (dV 0) (dV 4))) (dV 0) [fz (brd bd),fz (.int (w:Int)),fz (cL (aA bd W w x)),fz (cD x),none]=M.ret (cL (a5 bd W w x)):=by
  refine b9 (L_ (i:=2) (ds:=(aA bd W w x).map cD) rfl) (eM cD _ _ fun y _=>?_) ?_
  ·rw[m9,fj (b:=!decide (y=x)) ((aP (x:=cD y) (y:=cD x) rfl rfl).trans (Ih y x)),ao]
   cases (!decide (y=x))<;>rfl
  ·rw[List.length_map,c5]
   exact Nat.le_trans (List.length_filter_le ..) (by omega)
 refine aT (ai (ρ':=[fz (brd bd),fz (.int (w:Int)),fz (cL (aA bd W w x)),fz (cD x),fz (cL (a5 bd W w x))]) ((aL cm).trans rfl) (aB ((aP (x:= .int (ds.length:Int)) (y:= .int ((1:Nat):Int)) ((b8 (xs:=[.lst ds]) (aU ((aj (ds:=[brd bd,cL (a5 bd W w x), .int (w:Int)]) rfl rfl).trans h2) rfl)).trans rfl) rfl).trans ((AM _ _).trans ?_))))
 rw[h1]
 rfl
noncomputable def b6(bd:List Str)(W w:Nat):List Cell:=(aH bd.length W).filter fun x=>decide (1<gO bd W w x)
theorem p0:RiseC (b6 bd W w):=(cN _ _).filter _
theorem k7{x:Cell}:x∈b6 bd W w↔On bd.length W x∧1<gO bd W w x:=by
 unfold b6
 rw[List.mem_filter,aO,decide_eq_true_eq]
theorem z0:(b6 bd W w).length≤bd.length*W:=by
 rw[←cu bd.length W]
 exact List.length_filter_le ..
def Mt:DS:=(cB [3] (wy 2 (bt 0 (cO (dV 3)) (bN (ak 4 aZ (aC (dV 1) (aC (dV 2) (aC (dV 4) (aC (dV 0) aN)))))) (dV 0))))
theorem nE{α:Type}(f:α→List Cell):∀l:List α,(l.flatMap fun m=>(f m).map cD)=(l.flatMap f).map cD
 |[]=>rfl
 |a::l=>by rw[List.flatMap_cons,List.flatMap_cons,List.map_append,nE f l]
theorem z3(hg:Brd bd W)(hs:bd.length*W<64)(hw:Ways w):nA [brd bd, .int (w:Int)]=M.ret (cL (b6 bd W w)):=by
 let f:Cell→List Cell:=fun m=>(aA bd W w m).filter fun x=>decide (1<gO bd W w x)
 have rC:∀m∈b_ bd W w (aH bd.length W),∀x,x∈f m→x∈aA bd W w m:=fun m _ x hx=>(List.mem_filter.mp hx).1
 have xn:((b_ bd W w (aH bd.length W)).flatMap f).Nodup:=by
  refine xj _ C7 (fun a ha=>(RiseC.nodup (cI hw (d_ ha)).rise).filter _) fun a ha b hb x hx hy=>?_
  exact(t7 hw ha (rC a ha x hx)).one hw ((((cI hw (d_ ha)).mem x).mp (rC a ha x hx)).on hw (d_ ha)) (t7 hw hb (rC b hb x hy))
 have eO:∀x∈(b_ bd W w (aH bd.length W)).flatMap f,On bd.length W x:=fun x hx=>by
  obtain⟨m,hm,q⟩:=List.mem_flatMap.mp hx
  exact((cw hw (d_ hm)).mp (rC m hm x q)).on hw (d_ hm)
 have hlen:((b_ bd W w (aH bd.length W)).flatMap f).length≤bd.length*W:=gr xn eO
 have Cg:iI ((b_ bd W w (aH bd.length W)).flatMap f)=b6 bd W w:=by
  refine eQ (gW xn) p0 fun x=>?_
  rw[i4,k7]
  constructor
  ·intro hx
   obtain⟨m,hm,q⟩:=List.mem_flatMap.mp hx
   exact⟨eO x hx,of_decide_eq_true (List.mem_filter.mp q).2⟩
  ·rintro⟨h1,h2⟩
   obtain⟨L,hL⟩:=kY (bd:=bd) (W:=W) hw
   have hm:=hL x h1
   exact List.mem_flatMap.mpr ⟨L x,ub.mpr ⟨aO.mpr (hm.on hw h1),hm.self hw h1⟩,List.mem_filter.mpr ⟨(cw hw (hm.on hw h1)).mpr (hm.1.symm hw h1),decide_eq_true h2⟩⟩
 have lp:=fW (put:=putN 3) (body:=Mt) (fun m=>cL (aA bd W w m)) (fun acc=>[fz (brd bd),fz (.int (w:Int)),some (.ow (.lst acc)),none]) (fun m=>(f m).map cD) (B:=64) (b_ bd W w (aH bd.length W)) [] (by rw[List.nil_append,nE,List.length_map];omega) fun m hm acc ha=>by
  have HN:=d_ hm
  refine⟨[fz (brd bd),fz (.int (w:Int)),some (.ow (.lst acc)),fz (cL (aA bd W w m))],rfl,?_⟩
  have cm:bt 0 (cO (dV 3)) (bN (ak 4 aZ (aC (dV 1) (aC (dV 2) (aC (dV 4) (aC (dV 0) aN)))))) (dV 0) [fz (brd bd),fz (.int (w:Int)),some (.ow (.lst acc)),fz (cL (aA bd W w m))]=M.ret (cL (f m)):=by
   refine b9 (L_ (i:=3) (ds:=(aA bd W w m).map cD) rfl) (eM cD _ _ fun y hy=>?_) ?_
   ·have hc:=(cw hw HN).mp hy
    have e:=yJ hg hs hw (hc.on hw HN)
    rw[←ze hw HN hc] at e
    have e2:bN (ak 4 aZ (aC (dV 1) (aC (dV 2) (aC (dV 4) (aC (dV 0) aN))))) (fz (cD y)::[fz (brd bd),fz (.int (w:Int)),some (.ow (.lst acc)),fz (cL (aA bd W w m))])=M.ret (decide (1<gO bd W w y)):=nj ((aj (ds:=[brd bd, .int (w:Int),cL (aA bd W w m),cD y]) rfl rfl).trans e)
    rw[m9,e2,ao]
    cases decide (1<gO bd W w y)<;>rfl
   ·rw[List.length_append] at ha
    rw[c5]
    omega
  refine(bg (ρ':=[fz (brd bd),fz (.int (w:Int)),some (.ow (.lst (acc++(f m).map cD))),fz (cL (aA bd W w m))]) ?_).trans rfl
  show (bt 0 (cO (dV 3)) (bN (ak 4 aZ (aC (dV 1) (aC (dV 2) (aC (dV 4) (aC (dV 0) aN)))))) (dV 0) [fz (brd bd),fz (.int (w:Int)),some (.ow (.lst acc)),fz (cL (aA bd W w m))]>>=fun d=>lstM d>>=fun es=>if acc.length+es.length≤lim then M.ret (Out.nx _) else M.stuck)=_
  rw[cm,ao]
  show (if acc.length+((f m).map cD).length≤lim then M.ret (Out.nx _) else M.stuck)=_
  rw[List.length_append] at ha
  rw[if_pos (by rw[c5];omega)]
  rfl
 rw[List.nil_append,nE] at lp
 refine aT (ai (aX ((aj (ds:=[brd bd]) rfl rfl).trans hg.nb)) (ai (aX ((aj (ds:=[.int (w:Int)]) rfl rfl).trans hw.nw)) (ai (ρ':=[fz (brd bd),fz (.int (w:Int)),some (.ow (.lst [])),none]) rfl (ai (dE (fF (ds:=(b_ bd W w (aH bd.length W)).map fun m=>cL (aA bd W w m)) ?_ lp)) ?_))))
 ·show (ak 2 aV (aC (dV 0) (aC (dV 1) aN)) _>>=lstM)=_
  rw[(aj (ds:=[brd bd, .int (w:Int)]) rfl rfl:ak 2 aV (aC (dV 0) (aC (dV 1) aN)) _=_),et hg hs hw]
  rfl
 ·refine aB ((b8 (xs:=[cL ((b_ bd W w (aH bd.length W)).flatMap f)]) rfl).trans ((DX xn (by omega)).trans ?_))
  rw[Cg]
theorem xy(hg:Brd bd W)(hs:bd.length*W<64)(hw:Ways w){δ ε:DE}{ρ:aY}(h1:δ ρ=M.ret (brd bd))(h2:ε ρ=M.ret (.int (w:Int))):dA ba (aC (ak 2 aV (aC δ (aC ε aN))) aN) ρ=M.ret (.int ((bZ bd W w).length:Int)):=by
 refine(b8 (xs:=[il bd W w]) (aU ((aj (ds:=[brd bd, .int (w:Int)]) (aU h1 (aU h2 rfl)) rfl).trans (et hg hs hw)) rfl)).trans ?_
 rw[oJ]
 show M.ret (D.int (((bZ bd W w).map cL).length:Int))=_
 rw[List.length_map]
theorem oq(hg:Brd bd W)(hw:Ways w){x:Cell}(hx:On bd.length W x){c:Nat}(hc:c∈zF):eE [brd bd,cD x, .int (w:Int),sg c]=M.ret .non:=
 mO (ai (aX ((aj (ds:=[brd bd]) rfl rfl).trans hg.nb)) (ai (aX ((aj (ds:=[brd bd,cD x]) rfl rfl).trans (hg.nc hx))) (ai (aX ((aj (ds:=[.int (w:Int)]) rfl rfl).trans hw.nw)) (aX ((aj (ds:=[sg c]) rfl rfl).trans (AR ((mH c).trans (decide_eq_true hc))))))))
theorem gA(hG:Good bd W)(hs:bd.length*W<64)(hw:Ways w){x:Cell}(hx:On bd.length W x){c:Nat}(hc:c∈zF):cz [brd bd,cD x, .int (w:Int),sg c]=M.ret (.int (((bZ (dJ bd W [x] c) W w).length:Int) - ((bZ bd W w).length:Int))):=by
 have hg:=hG.brd
 have hn:=(qF hG (l:=[x]) hc).brd
 have ND:(dJ bd W [x] c).length*W<64:=by rw[gg];exact hs
 exact aT (ai (aX ((aj (ds:=[brd bd,cD x, .int (w:Int),sg c]) rfl rfl).trans (oq hg hw hx hc))) (ai (ρ':=[fz (brd bd),fz (cD x),fz (.int (w:Int)),fz (sg c),fz (brd (dJ bd W [x] c))]) ((aL ((aj (ds:=[brd bd,cL [x],sg c]) rfl rfl).trans (gq hg (by simp) c))).trans rfl) (aB ((aP (xy hn ND hw rfl rfl) (xy hg hs hw rfl rfl)).trans rfl))))
theorem Bx(hg:Brd bd W){x:Cell}{c:Nat}(hx:On bd.length W x):dJ (dJ bd W [x] c) W [x] (lt bd x)=bd:=by
 refine AJ (gg ..).symm (fun r hr=>(hg.rows r hr).len) fun i j hi hj=>?_
 rw[gg] at hi
 split
 ·rename_i q
  rw[←List.mem_singleton.mp q]
 ·rename_i q
  rw[xY hi hj,if_neg q]
theorem zm(hg:Brd bd W){x:Cell}(hx:On bd.length W x):dJ bd W [x] (lt bd x)=bd:=by
 refine AJ rfl (fun r hr=>(hg.rows r hr).len) fun i j hi hj=>?_
 split
 ·rename_i q
  rw[←List.mem_singleton.mp q]
 ·rfl
theorem AG{x:Cell}(hx:On bd.length W x)(fm:∀y,On bd.length W y→lt bd y≠101):Lone bd (dJ bd W [x] 101) W x:=by
 refine⟨gg ..,hx,fun y hy=>?_,fm⟩
 have:=xY (bd:=bd) (W:=W) (l:=[x]) (c:=101) hy.1 hy.2
 rw[show lt (dJ bd W [x] 101) y=at2 (dJ bd W [x] 101) y.1 y.2 from rfl,this]
 by_cases h:y=x
 ·rw[if_pos h,if_pos (by simpa using h)]
 ·rw[if_neg h,if_neg (by simpa using h)]
end
section
open Classical
variable{bd:List Str}{W w:Nat}
theorem N6(a b:Bool):kR (.bl a) (.bl b)=M.ret (.bl (!(a==b))):=by cases a<;>cases b<;>rfl
theorem ltN(a b:Nat):GV (.int (a:Int)) (.int (b:Int))=M.ret (.bl (decide (a<b))):=by
 show M.ret (D.bl (decide ((a:Int)<(b:Int))))=_
 rw[decide_eq_decide.mpr (show (a:Int)<(b:Int)↔a<b by omega)]
abbrev zC(s b:D)(w:Nat)(c:D)(x4 x5 x6 x7 x8 x9 Og:Option Sl):aY:=[fz s,fz b,fz (.int (w:Int)),fz c,x4,x5,x6,x7,x8,x9,Og]
def Ha:DS:=(cB [4,5,6,7,8,9,10] (av (bB 5 (ak 3 dP (aC (dV 1) (aC (dV 4) (aC (dV 2) aN))))) (av (bB 6 (ak 4 cz (aC (dV 1) (aC (dV 4) (aC (dV 2) (aC (dC (.str "e")) aN)))))) (av (fN (ni (cf (d2 kR (d2 (jF false) (dV 4) (dV 3)) (d2 Ei (dV 6) (dC (.int 1))))) (nh (cf (d2 nH (dA ba (aC (dV 5) aN)) (dC (.int 1)))) (cf (d2 kR (dV 6) (dC (.int 0)))))) (a9 (dC (.bl false))) cC) (av (fN (nh (cf (d2 Ei (dA ba (aC (dV 5) aN)) (dC (.int 1)))) (nh (cf (d2 (jF true) (dV 4) (dV 3))) (cf (d2 kR (dV 6) (dC (.int 1)))))) (a9 (dC (.bl false))) cC) (av (bB 7 (bt 0 (cO (ak 3 fV (aC (dV 1) (aC (dV 4) (aC (dV 2) aN))))) (cf (d2 (jF false) (dV 0) (dV 6))) (dV 0))) (av (fN (nh (cf (d2 GV (dA ba (aC (dV 7) aN)) (dC (.int 2)))) (cf (d2 (jF false) (dV 4) (dV 3)))) (a9 (dC (.bl false))) cC) (av (bB 8 (d2 nI (dC (.str "abcf")) (ak 3 aI (aC (dV 0) (aC (d2 c0 (d2 c0 (dC (.int 61)) (d2 bw (dV 4) (dC (.int 0)))) (d2 f6 (dC (.int 5)) (d2 bw (dV 4) (dC (.int 1))))) (aC (dC (.int 4)) aN)))))) (av (bB 9 (ak 3 cH (aC (dV 1) (aC (dV 4) (aC (dV 8) aN))))) (av (bB 10 (ak 4 cz (aC (dV 1) (aC (dV 4) (aC (dV 2) (aC (dV 8) aN)))))) (av (fN (cf (d2 kR (d2 mq (ak 2 cQ (aC (dV 9) (aC (dV 2) aN))) (ak 2 cQ (aC (dV 1) (aC (dV 2) aN)))) (dV 10))) (a9 (dC (.bl false))) cC) (av (fN (cf (d2 kR (ak 4 cz (aC (dV 9) (aC (dV 4) (aC (dV 2) (aC (ak 2 bS (aC (dV 1) (aC (dV 4) aN))) aN))))) (d2 mq (dC (.int 0)) (dV 10)))) (a9 (dC (.bl false))) cC) (fN (cf (d2 kR (ak 4 cz (aC (dV 1) (aC (dV 4) (aC (dV 2) (aC (ak 2 bS (aC (dV 1) (aC (dV 4) aN))) aN))))) (dC (.int 0)))) (a9 (dC (.bl false))) cC)))))))))))))
theorem zP(ns:List Int)(hl:ns.length≤63)(hG:Good bd W)(hs:bd.length*W<64)(hw:Ways w)(fm:∀y,On bd.length W y→lt bd y≠101){x:Cell}(hx:On bd.length W x):
 Ha (zC (.scr ns) (brd bd) w (cL (b6 bd W w)) (fz (cD x)) none none none none none none)=M.ret (.nx (zC (.scr ns) (brd bd) w (cL (b6 bd W w)) none none none none none none none)):=by
 have hg:=hG.brd
 obtain⟨P,hP,eP⟩:=r6 hg hs hw hx
 have Ol:P=aA bd W w x:=hP.one (cI hw hx)
 have NS:x∈P:=(hP.mem x).mpr Cn.refl
 have he:(101:Nat)∈zF:=by decide
 have ec:=gA hG hs hw hx he
 rw[(AG hx fm).many hw,show (((bZ bd W w).length+gO bd W w x:Nat):Int) - ((bZ bd W w).length:Int)=((gO bd W w x:Nat):Int) by omega] at ec
 have E7:decide (x∈b6 bd W w)=decide (1<gO bd W w x):=by
  rw[decide_eq_decide,k7]
  exact⟨fun q=>q.2,fun q=>⟨hx,q⟩⟩
 have h0:P.length=1→gO bd W w x=0:=fun q=>xM hw hx fun y hy=>by
  have hy:=(hP.mem y).mpr hy
  match P,q,NS,hy with
  |[a],_,q1,q2=>rw[List.mem_singleton.mp q1,List.mem_singleton.mp q2]
 have h1:1<P.length→1≤gO bd W w x:=fun q=>by
  have:∃y,y∈P∧y≠x:=by
   apply Classical.byContradiction
   intro rB
   have E3:∀y∈P,y∈[x]:=fun y hy=>by
    apply Classical.byContradiction
    intro hn
    exact rB ⟨y,hy,fun e=>hn (by rw[e];simp)⟩
   have:=c6 (RiseC.nodup hP.rise) E3
   simp at this
   omega
  obtain⟨y,hy,NW⟩:=this
  exact FY hw hx ((hP.mem y).mp hy) NW
 let N:=(eB bd.length W w x).filter fun y=>decide (y∈P)
 have hN:N.length<2→gO bd W w x≤1:=fun q=>FX hw hx (l:=N) (fun n hn=>by
  have:=(bz hw).mp hn
  exact List.mem_filter.mpr ⟨(i3 hw).mpr ⟨this.1,this.2.1⟩,decide_eq_true ((hP.mem n).mpr ((Cn.refl:Cn bd W w x x).step hn))⟩) q
 obtain⟨v,hv,ev⟩:=eN ns hl (61+x.1+5*x.2) 4 (by decide)
 obtain⟨c,JY,_,Mx⟩:=tQ (x:="abcf") (i:=v) hv
 have hc:c∈zF:=(show∀c∈("abcf":Str).cps.toList,c∈zF by decide+kernel) c JY
 have LA:=qF hG (l:=[x]) hc
 have LB:(dJ bd W [x] c).length*W<64:=by rw[gg];exact hs
 have NU:On (dJ bd W [x] c).length W x:=by rw[gg];exact hx
 have yK:lt bd x∈zF:=wW hg hx.1 hx.2
 have em:=gA hG hs hw hx hc
 have eb:=gA LA LB hw NU yK
 rw[Bx hg hx] at eb
 have es:=gA hG hs hw hx yK
 rw[zm hg hx,Int.sub_self] at es
 have m5:f6 (.int 5) (.int (x.2:Int))=M.ret (.int (5*(x.2:Int))):=eY (.inl ⟨by decide,by decide⟩)
 have kk:(61:Int)+(x.1:Int)+5*(x.2:Int)=((61+x.1+5*x.2:Nat):Int):=by omega
 let M1:Int:=((bZ (dJ bd W [x] c) W w).length:Int) - ((bZ bd W w).length:Int)
 refine(bg (ρ':=zC (.scr ns) (brd bd) w (cL (b6 bd W w)) (fz (cD x)) (fz (cL P)) (fz (.int (gO bd W w x:Int))) (fz (cL N)) (fz (sg c)) (fz (brd (dJ bd W [x] c))) (fz (.int M1))) ?_).trans rfl
 refine ai (ρ':=zC (.scr ns) (brd bd) w (cL (b6 bd W w)) (fz (cD x)) (fz (cL P)) none none none none none) ((aL ((aj (ds:=[brd bd,cD x, .int (w:Int)]) rfl rfl).trans eP)).trans rfl) ?_
 refine ai (ρ':=zC (.scr ns) (brd bd) w (cL (b6 bd W w)) (fz (cD x)) (fz (cL P)) (fz (.int (gO bd W w x:Int))) none none none none) ((aL ((aj (ds:=[brd bd,cD x, .int (w:Int),sg 101]) rfl rfl).trans ec)).trans rfl) ?_
 refine ai (c8 ((Hg (p:=false) (q:=(P.length==1)&& !(gO bd W w x==0)) (fj ((aP (x:= .bl (decide (x∈b6 bd W w))) (y:= .bl (decide (1<gO bd W w x))) ((aP (x:=cD x) (y:=cL (b6 bd W w)) rfl rfl).trans mI) ((aP (x:= .int (gO bd W w x:Int)) (y:= .int ((1:Nat):Int)) rfl rfl).trans (AM _ _))).trans ((N6 _ _).trans (by rw[E7,beq_self_eq_true];rfl)))) (rb (fj ((aP (x:= .int (P.length:Int)) (y:= .int ((1:Nat):Int)) ((b8 (xs:=[cL P]) rfl).trans (nX P)) rfl).trans ((eq_int _ _).trans (by rw[jr])))) (fj ((aP (x:= .int (gO bd W w x:Int)) (y:= .int ((0:Nat):Int)) rfl rfl).trans (Ex _ _))))).trans ?_) rfl) ?_
 ·rw[Bool.false_or]
  by_cases q:P.length=1
  ·rw[h0 q];simp
  ·rw[beq_eq_false_iff_ne.mpr q];rfl
 refine ai (c8 ((rb (fj ((aP (x:= .int (P.length:Int)) (y:= .int ((1:Nat):Int)) ((b8 (xs:=[cL P]) rfl).trans (nX P)) rfl).trans (AM _ _))) (rb (fj ((aP (x:=cD x) (y:=cL (b6 bd W w)) rfl rfl).trans mI)) (fj ((aP (x:= .int (gO bd W w x:Int)) (y:= .int ((1:Nat):Int)) rfl rfl).trans (Ex _ _))))).trans ?_) rfl) ?_
 ·rw[if_pos rfl,E7]
  by_cases q:1<P.length
  ·by_cases q2:1<gO bd W w x
   ·rw[decide_eq_true q2];simp
   ·rw[show gO bd W w x=1 by have:=h1 q;omega];simp
  ·rw[decide_eq_false q];rfl
 refine ai (ρ':=zC (.scr ns) (brd bd) w (cL (b6 bd W w)) (fz (cD x)) (fz (cL P)) (fz (.int (gO bd W w x:Int))) (fz (cL N)) none none none) ((aL (b9 (ds:=(eB bd.length W w x).map cD) (CU ((aj (ds:=[brd bd,cD x, .int (w:Int)]) rfl rfl).trans (vz hg hw hx))) (eM cD _ _ fun y _=>?_) ?_)).trans rfl) ?_
 ·have e2:cf (d2 (jF false) (dV 0) (dV 6)) (fz (cD y)::zC (.scr ns) (brd bd) w (cL (b6 bd W w)) (fz (cD x)) (fz (cL P)) (fz (.int (gO bd W w x:Int))) none none none none)=M.ret (decide (y∈P)):=fj ((aP (x:=cD y) (y:=cL P) rfl rfl).trans mI)
  rw[m9,e2,ao]
  cases decide (y∈P)<;>rfl
 ·rw[List.length_map,c5]
  exact Nat.le_trans (List.length_filter_le ..) (Nat.le_trans (i1 ..) (by decide))
 refine ai (c8 ((rb (fj ((aP (x:= .int (N.length:Int)) (y:= .int ((2:Nat):Int)) ((b8 (xs:=[cL N]) rfl).trans (nX N)) rfl).trans (ltN _ _))) (fj ((aP (x:=cD x) (y:=cL (b6 bd W w)) rfl rfl).trans mI))).trans ?_) rfl) ?_
 ·rw[if_neg (by decide),E7]
  by_cases q:N.length<2
  ·rw[decide_eq_false (show¬1<gO bd W w x by have:=hN q;omega)];simp
  ·rw[decide_eq_false q];rfl
 refine ai (ρ':=zC (.scr ns) (brd bd) w (cL (b6 bd W w)) (fz (cD x)) (fz (cL P)) (fz (.int (gO bd W w x:Int))) (fz (cL N)) (fz (sg c)) none none) ((aL ((aP (x:= .str "abcf") (y:= .int (v:Int)) rfl ((aj (ds:=[.scr ns, .int ((61+x.1+5*x.2:Nat):Int), .int 4]) (aU rfl (aU ((aP (x:= .int (61+(x.1:Int))) (y:= .int (5*(x.2:Int))) ((aP (x:= .int 61) (y:= .int (x.1:Int)) rfl rfl).trans rfl) ((aP (x:= .int 5) (y:= .int (x.2:Int)) rfl rfl).trans m5)).trans (by rw[fY,kk])) rfl)) rfl).trans ev)).trans Mx)).trans rfl) ?_
 refine ai (ρ':=zC (.scr ns) (brd bd) w (cL (b6 bd W w)) (fz (cD x)) (fz (cL P)) (fz (.int (gO bd W w x:Int))) (fz (cL N)) (fz (sg c)) (fz (brd (dJ bd W [x] c))) none) ((aL ((aj (ds:=[brd bd,cD x,sg c]) rfl rfl).trans (mD hg hx hc))).trans rfl) ?_
 refine ai (ρ':=zC (.scr ns) (brd bd) w (cL (b6 bd W w)) (fz (cD x)) (fz (cL P)) (fz (.int (gO bd W w x:Int))) (fz (cL N)) (fz (sg c)) (fz (brd (dJ bd W [x] c))) (fz (.int M1))) ((aL ((aj (ds:=[brd bd,cD x, .int (w:Int),sg c]) rfl rfl).trans em)).trans rfl) ?_
 refine ai (c8 (fj ((aP (x:= .int M1) (y:= .int M1) ((aP ((aj (ds:=[brd (dJ bd W [x] c), .int (w:Int)]) rfl rfl).trans (j3 LA.brd LB hw)) ((aj (ds:=[brd bd, .int (w:Int)]) rfl rfl).trans (j3 hg hs hw))).trans rfl) rfl).trans ((ne_int _ _).trans (by rw[beq_self_eq_true];rfl)))) rfl) ?_
 have elt:∀ρ:aY,dV 1 ρ=M.ret (brd bd)→dV 4 ρ=M.ret (cD x)→ak 2 bS (aC (dV 1) (aC (dV 4) aN)) ρ=M.ret (sg (lt bd x)):=fun ρ q1 q2=>(aj (ds:=[brd bd,cD x]) (aU q1 (aU q2 rfl)) rfl).trans (pB hg hx)
 refine ai (c8 (fj ((aP (x:= .int (((bZ bd W w).length:Int) - ((bZ (dJ bd W [x] c) W w).length:Int))) (y:= .int (0 - M1)) ((aj (ds:=[brd (dJ bd W [x] c),cD x, .int (w:Int),sg (lt bd x)]) (aU rfl (aU rfl (aU rfl (aU (elt _ rfl rfl) rfl)))) rfl).trans eb) rfl).trans ((ne_int _ _).trans ?_))) rfl) ?_
 ·rw[show (((bZ bd W w).length:Int) - ((bZ (dJ bd W [x] c) W w).length:Int))=0 - M1 by show _=0 - (((bZ (dJ bd W [x] c) W w).length:Int) - ((bZ bd W w).length:Int));omega,beq_self_eq_true]
  rfl
 exact c8 (fj ((aP (x:= .int 0) (y:= .int 0) ((aj (ds:=[brd bd,cD x, .int (w:Int),sg (lt bd x)]) (aU rfl (aU rfl (aU rfl (aU (elt _ rfl rfl) rfl)))) rfl).trans es) rfl).trans rfl)) rfl
theorem FJ(hg:Brd bd W)(hE:∀r∈bd,G7 r){x:Cell}(hx:On bd.length W x):lt bd x≠101:=by
 have hr:=getD_mem hx.1
 refine hE _ hr _ ?_
 have hl:(bd.getD x.1 ⟨#[]⟩).cps.toList.length=W:=by rw[Array.length_toList];exact(hg.rows _ hr).len
 show (bd.getD x.1 ⟨#[]⟩).cps.toList.getD x.2 0∈_
 generalize bd.getD x.1 ⟨#[]⟩=q at*
 rw[List.getD_eq_getElem?_getD,List.getElem?_eq_getElem (by rw[hl];exact hx.2)]
 exact List.getElem_mem _
theorem AE(ns:List Int)(hl:ns.length≤63):iU [.scr ns]=M.ret (.bl true):=by
 obtain⟨bd,W,hG,hE,_,_,eb⟩:=vA ns hl 0 4 (by decide) (by decide)
 have hg:=hG.brd
 have hs:bd.length*W<64:=by
  have:=Nat.mul_le_mul hG.r5 hG.w5
  omega
 have fm:∀x,On bd.length W x→lt bd x≠101:=fun x hx=>FJ hg hE hx
 obtain⟨v,hv,ev⟩:=eN ns hl 60 2 (by decide)
 obtain⟨w,hw,ew⟩:∃w,Ways w∧vP (.lst [.int 4, .int 8]) (.int (v:Int))=M.ret (.int (w:Int)):=by
  match v,hv with
  |0,_=>exact⟨4, .inl rfl,rfl⟩
  |1,_=>exact⟨8, .inr rfl,rfl⟩
 refine aT ?_
 refine ai (ρ':=[fz (.scr ns),fz (brd bd),none,none,none,none,none,none,none,none,none]) ((aL ((aj (ds:=[.scr ns, .int 0, .int 4]) rfl rfl).trans eb)).trans rfl) ?_
 refine ai (ρ':=[fz (.scr ns),fz (brd bd),fz (.int (w:Int)),none,none,none,none,none,none,none,none]) ((aL ((aP (x:= .lst [.int 4, .int 8]) (y:= .int (v:Int)) rfl ((aj (ds:=[.scr ns, .int 60, .int 2]) rfl rfl).trans ev)).trans ew)).trans rfl) ?_
 refine ai (ρ':=zC (.scr ns) (brd bd) w (cL (b6 bd W w)) none none none none none none none) ((aL ((aj (ds:=[brd bd, .int (w:Int)]) rfl rfl).trans (z3 hg hs hw))).trans rfl) ?_
 have E6:(b6 bd W w).length<64:=Nat.lt_of_le_of_lt z0 hs
 refine ai (c8 (fj ((aP (x:=cL (b6 bd W w)) rfl (wF hg.r8 hg.w8 p0 E6 fun x hx=>(k7.mp hx).1)).trans ((Ii _ _).trans (by rw[decide_eq_true rfl];rfl)))) rfl) ?_
 refine ai (ρ':=zC (.scr ns) (brd bd) w (cL (b6 bd W w)) none none none none none none none) (dE (fF (ds:=(aH bd.length W).map cD) (CU ((aj (ds:=[brd bd]) rfl rfl).trans (pY hg))) (p8 (body:=Ha) cD _ (aH bd.length W) fun x hx=>⟨_,rfl,zP ns hl hG hs hw fm (aO.mp hx)⟩))) ?_
 have dO:(b6 bd W w).length<bd.length*W:=by
  obtain⟨y,hy,hp⟩:=C9 (bd:=bd) (W:=W) hw (a:=(0,0)) ⟨hg.r1,hg.w1⟩
  rw[←cu bd.length W]
  unfold b6
  exact List.length_filter_lt_length_iff_exists.mpr ⟨y,aO.mpr hy,by rw[decide_eq_true_eq];omega⟩
 exact aB (EM ((aP ((b8 (xs:=[cL (b6 bd W w)]) rfl).trans (nX _)) (yU ((aj (ds:=[brd bd]) rfl rfl).trans (pY hg)))).trans ((ltN _ _).trans (by rw[decide_eq_true dO]))))
end
def DF(K:W.Frag)(x:Str)(s:Stmt):Prop:=∃(f:Addr) (oc:Value) (od an:Option Addr) (sl:Array (Option Value)) (kV dc pm cd ct:Value),PySem.W.nsIn K mainGlobals x=some (some (.ref f))∧K.lookup f=some ⟨oc,od, .func (PySem.W.fnOf x x (dY s) (bx s) (ag s) .none kV dc pm an cd ct),sl⟩∧PySem.W.codeIn K cd x=true∧PySem.W.keepIn K (.ref f)=true
theorem DF.mk{K:W.Frag}{x:Str}{s:Stmt}{f:Addr}{oc:Value}{od an:Option Addr}{sl:Array (Option Value)}{kV dc pm cd ct:Value}(a:PySem.W.nsIn K mainGlobals x=some (some (.ref f)))(l:K.lookup f=some ⟨oc,od, .func (PySem.W.fnOf x x (dY s) (bx s) (ag s) .none kV dc pm an cd ct),sl⟩)(c:PySem.W.codeIn K cd x=true)(k:PySem.W.keepIn K (.ref f)=true):DF K x s:=⟨f,oc,od,an,sl,kV,dc,pm,cd,ct,a,l,c,k⟩
theorem DF.at{K:W.Frag}{x:Str}{s:Stmt}{h:Heap}{mg:Str→Option Value}(X:K.In h)(G:h.Ns mainGlobals mg)(d:DF K x s):∃f,bh K mg x s f:=by
 obtain⟨f,oc,od,an,sl,kV,dc,pm,cd,ct,a,l,c,k⟩:=d
 exact⟨f,PySem.W.mg_of X G a,_,Ag (st:=s) l c k⟩
theorem all_mk{P:Program}{w:World}{K:W.Frag}{h:Heap}{mg:Str→Option Value}{fa:Addr}(X:K.In h)(G:h.Ns mainGlobals mg)(M5:mg "law"=some (.ref fa))
 {jE:Addr}{wc mS:Option Addr}{wB:Array (Option Value)}{wb nV nk oP jC ng:Value}
 {zr:Tok}
 {u6:Tok}
 {o7:Tok}
 (d_is_whole:DF K "is_whole" jM)
 (d_is_letter:DF K "is_letter" iB)
 (d_cells_of_row:DF K "cells_of_row" dG)
 (d_letter_of:DF K "letter_of" iE)
 (d_are_next:DF K "are_next" jK)
 (d_keyed:DF K "keyed" sy)
 (d_distances:DF K "distances" iA)
 (d_law_cell:DF K "_law_cell" jN)
 (d_is_row:DF K "is_row" kD)
 (d_is_cell:DF K "is_cell" ly)
 (d_need_letter:DF K "need_letter" fP)
 (d_need_ways:DF K "need_ways" iG)
 (d_all_cells:DF K "all_cells" iz)
 (d_next_cells:DF K "next_cells" gR)
 (d_with_letters:DF K "with_letters" dH)
 (d_law_drawn:DF K "_law_drawn" iC)
 (d_is_board:DF K "is_board" fg)
 (d_need_cell:DF K "need_cell" iF)
 (d_like_cells:DF K "like_cells" eJ)
 (d_near_among:DF K "near_among" eK)
 (d_law_board:DF K "_law_board" fH)
 (d_need_board:DF K "need_board" gP)
 (d_steps_back:DF K "steps_back" gS)
 (d_parts_of:DF K "parts_of" jO)
 (d_cells:DF K "cells" sv)
 (d_letter_at:DF K "letter_at" iD)
 (d_with_letter:DF K "with_letter" fQ)
 (d_beside:DF K "beside" oU)
 (d_all_patches:DF K "all_patches" fO)
 (d_patch_of:DF K "patch_of" jP)
 (d_need_paint:DF K "need_paint" gQ)
 (d_holds_together:DF K "holds_together" cW)
 (d_how_many:DF K "how_many" jL)
 (d_change:DF K "change" oV)
 (d_cuts:DF K "cuts" sx)
 (a_law_k42:PySem.W.nsIn K mainGlobals "law"=some (some (.ref jE)))(l_law_k42:K.lookup jE=some ⟨wb,wc, .func (PySem.W.fnOf "law" "law" (dY az) (bx az) (ag az) .none nV nk oP mS jC ng),wB⟩)(c_law_k42:PySem.W.codeIn K jC "law"=true)(k_law_k42:PySem.W.keepIn K (.ref jE)=true)
 (z_len:PySem.W.nsIn K mainGlobals "len"=some none)
 (z_isinstance:PySem.W.nsIn K mainGlobals "isinstance"=some none)
 (z_all:PySem.W.nsIn K mainGlobals "all"=some none)
 (z_abs:PySem.W.nsIn K mainGlobals "abs"=some none)
 (z_max:PySem.W.nsIn K mainGlobals "max"=some none)
 (z_min:PySem.W.nsIn K mainGlobals "min"=some none)
 (z_range:PySem.W.nsIn K mainGlobals "range"=some none)
 (z_str:PySem.W.nsIn K mainGlobals "str"=some none)
 (z_int:PySem.W.nsIn K mainGlobals "int"=some none)
 (z_bool:PySem.W.nsIn K mainGlobals "bool"=some none)
 (z_tuple:PySem.W.nsIn K mainGlobals "tuple"=some none)
 (z_list:PySem.W.nsIn K mainGlobals "list"=some none)
 (z_set:PySem.W.nsIn K mainGlobals "set"=some none)
 (z_sorted:PySem.W.nsIn K mainGlobals "sorted"=some none)
 (y_LETTERS:PySem.W.nsIn K mainGlobals "LETTERS"=some (some (.str "abcdef" zr)))
 (y_MOST_ROWS:PySem.W.nsIn K mainGlobals "MOST_ROWS"=some (some (.int 8 u6)))
 (y_MOST_COLUMNS:PySem.W.nsIn K mainGlobals "MOST_COLUMNS"=some (some (.int 8 o7))):
 ∃(cv:Nat→Value) (fd:FuncData),(∀(s:Shared) (u:Value),BindsTo s fd ⟨[u],[]⟩ [("_law_script",u)])∧∀base:Heap,K.In base→base.Ns mainGlobals mg→FnOk P w K mg base (ph P w cv) 7 fa fd ["_law_script"] (GZ K cv 1 iU):=by
 have ea:=M5.symm.trans (PySem.W.mg_of X G a_law_k42)
 cases ea
 refine⟨fun _=> .none,PySem.W.fnOf "law" "law" (dY az) (bx az) (ag az) .none nV nk oP mS jC ng,fun s v=> .of_eq rfl,fun base KB GB=>?_⟩
 have B:Bl K mg base (fun _=> .none) (fun _=>mainGlobals) mainGlobals:=⟨PySem.W.mg_none_of X G z_len,PySem.W.mg_none_of X G z_isinstance,PySem.W.mg_none_of X G z_all,PySem.W.mg_none_of X G z_abs,PySem.W.mg_none_of X G z_max,PySem.W.mg_none_of X G z_min,PySem.W.mg_none_of X G z_range,PySem.W.mg_none_of X G z_str,PySem.W.mg_none_of X G z_int,PySem.W.mg_none_of X G z_bool,PySem.W.mg_none_of X G z_tuple,PySem.W.mg_none_of X G z_list,PySem.W.mg_none_of X G z_set,PySem.W.mg_none_of X G z_sorted,⟨_,PySem.W.mg_of X G y_LETTERS⟩,⟨_,PySem.W.mg_of X G y_MOST_ROWS⟩,⟨_,PySem.W.mg_of X G y_MOST_COLUMNS⟩⟩
 have ou:=(DF.at X G d_is_whole).elim fun _ t=>ux (P:=P) (w:=w) B t
 have lT:=(DF.at X G d_is_letter).elim fun _ t=>rR (P:=P) (w:=w) B t
 have h9:=(DF.at X G d_cells_of_row).elim fun _ t=>mx (P:=P) (w:=w) B t
 have ib:=(DF.at X G d_letter_of).elim fun _ t=>rV (P:=P) (w:=w) B t
 have v5:=(DF.at X G d_are_next).elim fun _ t=>uu (P:=P) (w:=w) B t
 have mL:=(DF.at X G d_keyed).elim fun _ t=>A3 (P:=P) (w:=w) B t
 have um:=(DF.at X G d_distances).elim fun _ t=>rQ (P:=P) (w:=w) B t
 have v9:=(DF.at X G d_law_cell).elim fun _ t=>uy (P:=P) (w:=w) B t
 have A0:=(DF.at X G d_is_row).elim fun _ t=>y8 (P:=P) (w:=w) B lT t
 have y0:=(DF.at X G d_is_cell).elim fun _ t=>we (P:=P) (w:=w) B ou t
 have jt:=(DF.at X G d_need_letter).elim fun _ t=>oz (P:=P) (w:=w) B lT t
 have eh:=(DF.at X G d_need_ways).elim fun _ t=>rX (P:=P) (w:=w) B ou t
 have lS:=(DF.at X G d_all_cells).elim fun _ t=>rP (P:=P) (w:=w) B h9 t
 have gN:=(DF.at X G d_next_cells).elim fun _ t=>pH (P:=P) (w:=w) B v5 t
 have ie:=(DF.at X G d_with_letters).elim fun _ t=>my (P:=P) (w:=w) B mL h9 ib t
 have lU:=(DF.at X G d_law_drawn).elim fun _ t=>rT (P:=P) (w:=w) B v9 t
 have v8:=(DF.at X G d_is_board).elim fun _ t=>uw (P:=P) (w:=w) B A0 t
 have eg:=(DF.at X G d_need_cell).elim fun _ t=>rW (P:=P) (w:=w) B y0 t
 have rM:=(DF.at X G d_like_cells).elim fun _ t=>pD (P:=P) (w:=w) B ib gN t
 have rN:=(DF.at X G d_near_among).elim fun _ t=>pE (P:=P) (w:=w) B mL gN t
 have uo:=(DF.at X G d_law_board).elim fun _ t=>rS (P:=P) (w:=w) B lU t
 have bT:=(DF.at X G d_need_board).elim fun _ t=>pF (P:=P) (w:=w) B v8 t
 have kg:=(DF.at X G d_steps_back).elim fun _ t=>pI (P:=P) (w:=w) B rM t
 have v_:=(DF.at X G d_parts_of).elim fun _ t=>uz (P:=P) (w:=w) B rN um mL t
 have C_:=(DF.at X G d_cells).elim fun _ t=>A1 (P:=P) (w:=w) B bT lS t
 have uq:=(DF.at X G d_letter_at).elim fun _ t=>rU (P:=P) (w:=w) B bT eg ib t
 have pC:=(DF.at X G d_with_letter).elim fun _ t=>oA (P:=P) (w:=w) B bT eg jt ie t
 have AY:=(DF.at X G d_beside).elim fun _ t=>y6 (P:=P) (w:=w) B bT eg eh gN t
 have fL:=(DF.at X G d_all_patches).elim fun _ t=>oy (P:=P) (w:=w) B lS kg mL t
 have wa:=(DF.at X G d_patch_of).elim fun _ t=>uA (P:=P) (w:=w) B bT eg eh kg t
 have rO:=(DF.at X G d_need_paint).elim fun _ t=>pG (P:=P) (w:=w) B bT eg eh jt t
 have k8:=(DF.at X G d_holds_together).elim fun _ t=>kh (P:=P) (w:=w) B v_ t
 have v7:=(DF.at X G d_how_many).elim fun _ t=>uv (P:=P) (w:=w) B bT eh fL t
 have AZ:=(DF.at X G d_change).elim fun _ t=>y7 (P:=P) (w:=w) B rO ie fL t
 have FK:=(DF.at X G d_cuts).elim fun _ t=>Dd (P:=P) (w:=w) B bT eh fL k8 t
 exact ur B uo FK C_ lU wa AZ pC AY v7 uq (Ag (st:=az) l_law_k42 c_law_k42 k_law_k42)
end K1
open PySem PySem.W PyProof.Rows
set_option maxHeartbeats 0 in
theorem PySem.Challenge.cw_cellpatches_k42_whole_cuts_holds : PySem.Challenge.rw_cellpatches_k42_whole_cuts.Holds := by
 w_on;o_law
 refine holds_open (q:=K1.va) (loose:=[]) (Xt:=fun s=>xlAt K1.va [] s&&recOk (RowW.records (OpenRow.toRowW _)) s) (XP:=XL K1.va []) (Yf:=Hook.obs (kHook K1.nN K1.nM (fun _=>by kernel_rfl))) (Ya:=Hook.val (kHook K1.nN K1.nM (fun _=>by kernel_rfl))) (YP:=Hook.says (kHook K1.nN K1.nM (fun _=>by kernel_rfl))) (N:=4494) ?hl (Hook.of (kHook K1.nN K1.nM (fun _=>by kernel_rfl))) (Hook.keeps (kHook K1.nN K1.nM (fun _=>by kernel_rfl))) (fun s e=>xl_of s (Bool.and_eq_true_iff.mp e).1) XL.keeps (by rfl) (by rfl) (by rfl) (fun s e=>recFacts_of (Bool.and_eq_true_iff.mp e).2) (by rfl) (by first | assumption | decide+kernel) (by decide+kernel) ⟨rfl,rfl,rfl,rfl,rfl,by decide+kernel⟩ ?hw ?hc
 case hl=>exact K1.HG
 (case hw=>w_witness2)
 k_fill
 refine L3.Jc (l:=PySem.Challenge.rw_cellpatches_k42_whole_cuts) (k:=7) (n:=63) (x:="_law_script") (g:=K1.iU) rfl (by decide) rfl ⟨rfl,by decide,by decide⟩ (fun w h Y=>PySem.W.kIn_of Y) K1.AE ?F
 case F=>
  intro w mg fa h KX G Ff
  refine' K1.all_mk KX G Ff ?d_is_whole ?d_is_letter ?d_cells_of_row ?d_letter_of ?d_are_next ?d_keyed ?d_distances ?d_law_cell ?d_is_row ?d_is_cell ?d_need_letter ?d_need_ways ?d_all_cells ?d_next_cells ?d_with_letters ?d_law_drawn ?d_is_board ?d_need_cell ?d_like_cells ?d_near_among ?d_law_board ?d_need_board ?d_steps_back ?d_parts_of ?d_cells ?d_letter_at ?d_with_letter ?d_beside ?d_all_patches ?d_patch_of ?d_need_paint ?d_holds_together ?d_how_many ?d_change ?d_cuts ?a_law_k42 ?l_law_k42 ?c_law_k42 ?k_law_k42 ?z_len ?z_isinstance ?z_all ?z_abs ?z_max ?z_min ?z_range ?z_str ?z_int ?z_bool ?z_tuple ?z_list ?z_set ?z_sorted ?y_LETTERS ?y_MOST_ROWS ?y_MOST_COLUMNS
  (case d_is_whole=>(refine' K1.DF.mk ?a ?l ?c ?k;(case a=>k_is);(case l=>k_is);(case c=>k_is);(case k=>k_is)))
  (case d_is_letter=>(refine' K1.DF.mk ?a ?l ?c ?k;(case a=>k_is);(case l=>k_is);(case c=>k_is);(case k=>k_is)))
  (case d_cells_of_row=>(refine' K1.DF.mk ?a ?l ?c ?k;(case a=>k_is);(case l=>k_is);(case c=>k_is);(case k=>k_is)))
  (case d_letter_of=>(refine' K1.DF.mk ?a ?l ?c ?k;(case a=>k_is);(case l=>k_is);(case c=>k_is);(case k=>k_is)))
  (case d_are_next=>(refine' K1.DF.mk ?a ?l ?c ?k;(case a=>k_is);(case l=>k_is);(case c=>k_is);(case k=>k_is)))
  (case d_keyed=>(refine' K1.DF.mk ?a ?l ?c ?k;(case a=>k_is);(case l=>k_is);(case c=>k_is);(case k=>k_is)))
  (case d_distances=>(refine' K1.DF.mk ?a ?l ?c ?k;(case a=>k_is);(case l=>k_is);(case c=>k_is);(case k=>k_is)))
  (case d_law_cell=>(refine' K1.DF.mk ?a ?l ?c ?k;(case a=>k_is);(case l=>k_is);(case c=>k_is);(case k=>k_is)))
  (case d_is_row=>(refine' K1.DF.mk ?a ?l ?c ?k;(case a=>k_is);(case l=>k_is);(case c=>k_is);(case k=>k_is)))
  (case d_is_cell=>(refine' K1.DF.mk ?a ?l ?c ?k;(case a=>k_is);(case l=>k_is);(case c=>k_is);(case k=>k_is)))
  (case d_need_letter=>(refine' K1.DF.mk ?a ?l ?c ?k;(case a=>k_is);(case l=>k_is);(case c=>k_is);(case k=>k_is)))
  (case d_need_ways=>(refine' K1.DF.mk ?a ?l ?c ?k;(case a=>k_is);(case l=>k_is);(case c=>k_is);(case k=>k_is)))
  (case d_all_cells=>(refine' K1.DF.mk ?a ?l ?c ?k;(case a=>k_is);(case l=>k_is);(case c=>k_is);(case k=>k_is)))
  (case d_next_cells=>(refine' K1.DF.mk ?a ?l ?c ?k;(case a=>k_is);(case l=>k_is);(case c=>k_is);(case k=>k_is)))
  (case d_with_letters=>(refine' K1.DF.mk ?a ?l ?c ?k;(case a=>k_is);(case l=>k_is);(case c=>k_is);(case k=>k_is)))
  (case d_law_drawn=>(refine' K1.DF.mk ?a ?l ?c ?k;(case a=>k_is);(case l=>k_is);(case c=>k_is);(case k=>k_is)))
  (case d_is_board=>(refine' K1.DF.mk ?a ?l ?c ?k;(case a=>k_is);(case l=>k_is);(case c=>k_is);(case k=>k_is)))
  (case d_need_cell=>(refine' K1.DF.mk ?a ?l ?c ?k;(case a=>k_is);(case l=>k_is);(case c=>k_is);(case k=>k_is)))
  (case d_like_cells=>(refine' K1.DF.mk ?a ?l ?c ?k;(case a=>k_is);(case l=>k_is);(case c=>k_is);(case k=>k_is)))
  (case d_near_among=>(refine' K1.DF.mk ?a ?l ?c ?k;(case a=>k_is);(case l=>k_is);(case c=>k_is);(case k=>k_is)))
  (case d_law_board=>(refine' K1.DF.mk ?a ?l ?c ?k;(case a=>k_is);(case l=>k_is);(case c=>k_is);(case k=>k_is)))
  (case d_need_board=>(refine' K1.DF.mk ?a ?l ?c ?k;(case a=>k_is);(case l=>k_is);(case c=>k_is);(case k=>k_is)))
  (case d_steps_back=>(refine' K1.DF.mk ?a ?l ?c ?k;(case a=>k_is);(case l=>k_is);(case c=>k_is);(case k=>k_is)))
  (case d_parts_of=>(refine' K1.DF.mk ?a ?l ?c ?k;(case a=>k_is);(case l=>k_is);(case c=>k_is);(case k=>k_is)))
  (case d_cells=>(refine' K1.DF.mk ?a ?l ?c ?k;(case a=>k_is);(case l=>k_is);(case c=>k_is);(case k=>k_is)))
  (case d_letter_at=>(refine' K1.DF.mk ?a ?l ?c ?k;(case a=>k_is);(case l=>k_is);(case c=>k_is);(case k=>k_is)))
  (case d_with_letter=>(refine' K1.DF.mk ?a ?l ?c ?k;(case a=>k_is);(case l=>k_is);(case c=>k_is);(case k=>k_is)))
  (case d_beside=>(refine' K1.DF.mk ?a ?l ?c ?k;(case a=>k_is);(case l=>k_is);(case c=>k_is);(case k=>k_is)))
  (case d_all_patches=>(refine' K1.DF.mk ?a ?l ?c ?k;(case a=>k_is);(case l=>k_is);(case c=>k_is);(case k=>k_is)))
  (case d_patch_of=>(refine' K1.DF.mk ?a ?l ?c ?k;(case a=>k_is);(case l=>k_is);(case c=>k_is);(case k=>k_is)))
  (case d_need_paint=>(refine' K1.DF.mk ?a ?l ?c ?k;(case a=>k_is);(case l=>k_is);(case c=>k_is);(case k=>k_is)))
  (case d_holds_together=>(refine' K1.DF.mk ?a ?l ?c ?k;(case a=>k_is);(case l=>k_is);(case c=>k_is);(case k=>k_is)))
  (case d_how_many=>(refine' K1.DF.mk ?a ?l ?c ?k;(case a=>k_is);(case l=>k_is);(case c=>k_is);(case k=>k_is)))
  (case d_change=>(refine' K1.DF.mk ?a ?l ?c ?k;(case a=>k_is);(case l=>k_is);(case c=>k_is);(case k=>k_is)))
  (case d_cuts=>(refine' K1.DF.mk ?a ?l ?c ?k;(case a=>k_is);(case l=>k_is);(case c=>k_is);(case k=>k_is)))
  (case a_law_k42=>k_is)
  (case l_law_k42=>k_is)
  (case c_law_k42=>k_is)
  (case k_law_k42=>k_is)
  (case z_len=>k_is)
  (case z_isinstance=>k_is)
  (case z_all=>k_is)
  (case z_abs=>k_is)
  (case z_max=>k_is)
  (case z_min=>k_is)
  (case z_range=>k_is)
  (case z_str=>k_is)
  (case z_int=>k_is)
  (case z_bool=>k_is)
  (case z_tuple=>k_is)
  (case z_list=>k_is)
  (case z_set=>k_is)
  (case z_sorted=>k_is)
  (case y_LETTERS=>k_is)
  (case y_MOST_ROWS=>k_is)
  (case y_MOST_COLUMNS=>k_is)
