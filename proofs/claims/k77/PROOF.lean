import PyProof.Rows.All
import Wide.All
import OpenK.AllK
import Wide.FinOn
import Lean
import PyProof.EqAt
import PyProof.EqKinds
import PyProof.TupleCall
import KE.KTryMore
import KE.KRevIter
import KE.KSortTup
import KE.KDictSum
import KE.KRevSl
import PyProof.Rows.TupDisplay
import PyProof.EnumFor
import PyProof.EnumMake
import PyProof.EnumStmt
import PyProof.DictUpdate
import PyProof.AttrMissSeq
import KE.KDictOf
import PyProof.ListStr
import PyProof.SetScanFacts
import PyProof.Rows.SetFrom
import PyProof.TupleKey
import KE.LcSums
import PySem.Challenge.RW_cellpatches_k77_whole_parts
set_option Elab.async false
set_option linter.all false
set_option maxRecDepth 100000
namespace L2
open PySem
def dN(s:Stmt):Arguments:=match s with
 | .FunctionDef _ a _ _ _ _ _ _ _ _=>a
 |_=>{posonlyargs:=[],args:=[],vararg:=none,kwonlyargs:=[],kw_defaults:=[],kwarg:=none,defaults:=[]}
def aP(s:Stmt):List Stmt:=match s with
 | .FunctionDef _ _ b _ _ _ _ _ _ _=>b
 |_=>[]
def af(s:Stmt):Scope:=match s with
 | .FunctionDef _ _ _ _ _ _ sc _ _ _=>sc
 |_=>{kind:= .function,names:=[],isGenerator:=false,isCoroutine:=false}
end L2
namespace K1
open PySem PySem.Spec
def top(i:Nat):Stmt:=PySem.Challenge.pw_cellpatches_k77_whole_parts.main.body.getD i (.Pass ⟨0,0,0,0⟩)
abbrev hS(s:String)(t:Tok):Value:= .str (Str.ofString s) t
abbrev hE(P:Params)(s:String)(t:Tok)(v:Value):DictEntry:={hash:=PyData.keyHash P (Str.ofString s),key:=hS s t,val:=v}
abbrev hT(xs:Array Value):Obj:={cls:= .type "tuple",data:=Data.seq xs}
abbrev hF(s:String)(t:Stmt)(m:Value)(c:Addr):Obj:={cls:= .type "function",data:=Data.func {name:=Str.ofString s,qualname:=Str.ofString s,params:=L2.dN t,body:=FuncBody.stmts (L2.aP t),scope:=L2.af t,globals:=3,closure:=[],defaults:= .none,kwdefaults:= .none,pyModule:=m,code:= .ref c} }
def nA:Params→W.Frag:=fun P=>(nat_lit 2,{cls:= .none,data:=Data.dict #[]})::
 (nat_lit 3,{cls:= .type "dict",data:=Data.dict #[hE P "__name__" 165 (hS "law_cellpatches_k77_whole_parts" 513),hE P "__doc__" 166 .none,hE P "__package__" 167 .none,hE P "__loader__" 168 (.builtin "__main__.__loader__#opaque"),hE P "__spec__" 169 .none,hE P "__annotations__" 170 (.ref 6),hE P "__builtins__" 171 (.ref 4),hE P "__file__" 173 (hS "/claim/cut.py" 172),hE P "__cached__" 174 .none,hE P "PatchError" 206 (.ref 24),hE P "NoBoard" 222 (.ref 37),hE P "NoWays" 238 (.ref 49),hE P "NoCell" 254 (.ref 61),hE P "NoLetter" 270 (.ref 73),hE P "LETTERS" 274 (hS "abcdef" 273),hE P "MOST_ROWS" 276 (.int 8 275),hE P "MOST_COLUMNS" 278 (.int 8 277),hE P "is_whole" 285 (.ref 82),hE P "is_letter" 292 (.ref 89),hE P "is_row" 298 (.ref 94),hE P "is_board" 304 (.ref 99),hE P "is_cell" 312 (.ref 106),hE P "need_board" 319 (.ref 113),hE P "need_cell" 327 (.ref 120),hE P "need_letter" 334 (.ref 127),hE P "need_ways" 341 (.ref 134),hE P "cells_of_row" 347 (.ref 139),hE P "all_cells" 356 (.ref 146),hE P "letter_of" 364 (.ref 153),hE P "are_next" 375 (.ref 160),hE P "next_cells" 387 (.ref 167),hE P "keyed" 396 (.ref 174),hE P "mirrored" 402 (.ref 179),hE P "part_between" 410 (.ref 184),hE P "lies_at" 421 (.ref 191),hE P "with_names" 427 (.ref 196),hE P "cut_out" 438 (.ref 203),hE P "found_in" 444 (.ref 208),hE P "relettered" 453 (.ref 215),hE P "are_like" 461 (.ref 222),hE P "swapped" 470 (.ref 229),hE P "like_cells" 478 (.ref 234),hE P "steps_back" 492 (.ref 241),hE P "all_patches" 504 (.ref 248),hE P "patches" 512 (.ref 255),hE P "_law_cell" 522 (.ref 262),hE P "_law_drawn" 532 (.ref 269),hE P "_law_board" 538 (.ref 274),hE P "_law_cell_in" 547 (.ref 281),hE P "law" 553 (.ref 286)] 50})::
 (nat_lit 15,hT #[.type "ValueError"])::
 (nat_lit 22,hT #[])::
 (nat_lit 23,{cls:= .type "dict",data:=Data.dict #[hE P "__module__" 196 (hS "cellpatches.errors" 187),hE P "__firstlineno__" 200 (.int 2 199),hE P "__static_attributes__" 201 (.ref 22),hE P "__weakref__" 203 (.ref 25),hE P "__doc__" 204 .none] 3})::
 (nat_lit 24,{cls:= .type "type",data:=Data.cls {name:=Str.ofString "PatchError",bases:=[.type "ValueError"],mro:=[.ref 24, .type "ValueError", .type "Exception", .type "BaseException", .type "object"],ns:=23,qualname:=Str.ofString "PatchError",subclasses:=[.ref 37, .ref 49, .ref 61, .ref 73]},slots:= #[some (.ref 15),none,some (hS "PatchError" 189),some (hS "PatchError" 197),some (.builtin "ValueError.__new__"),some (.bool true)]})::
 (nat_lit 25,{cls:= .type "getset_descriptor",data:=Data.fields #[hS "__weakref__" 202, .ref 24, .builtin "ExceptionGroup.__weakref__", .none]})::
 (nat_lit 28,hT #[.ref 24])::
 (nat_lit 35,hT #[])::
 (nat_lit 36,{cls:= .type "dict",data:=Data.dict #[hE P "__module__" 214 (hS "cellpatches.errors" 187),hE P "__firstlineno__" 218 (.int 4 217),hE P "__static_attributes__" 219 (.ref 35),hE P "__doc__" 220 .none] 2})::
 (nat_lit 37,{cls:= .type "type",data:=Data.cls {name:=Str.ofString "NoBoard",bases:=[.ref 24],mro:=[.ref 37, .ref 24, .type "ValueError", .type "Exception", .type "BaseException", .type "object"],ns:=36,qualname:=Str.ofString "NoBoard"},slots:= #[some (.ref 28),none,some (hS "NoBoard" 207),some (hS "NoBoard" 215),some (.builtin "ValueError.__new__"),some (.bool true)]})::
 (nat_lit 40,hT #[.ref 24])::
 (nat_lit 47,hT #[])::
 (nat_lit 48,{cls:= .type "dict",data:=Data.dict #[hE P "__module__" 230 (hS "cellpatches.errors" 187),hE P "__firstlineno__" 234 (.int 6 233),hE P "__static_attributes__" 235 (.ref 47),hE P "__doc__" 236 .none] 2})::
 (nat_lit 49,{cls:= .type "type",data:=Data.cls {name:=Str.ofString "NoWays",bases:=[.ref 24],mro:=[.ref 49, .ref 24, .type "ValueError", .type "Exception", .type "BaseException", .type "object"],ns:=48,qualname:=Str.ofString "NoWays"},slots:= #[some (.ref 40),none,some (hS "NoWays" 223),some (hS "NoWays" 231),some (.builtin "ValueError.__new__"),some (.bool true)]})::
 (nat_lit 52,hT #[.ref 24])::
 (nat_lit 59,hT #[])::
 (nat_lit 60,{cls:= .type "dict",data:=Data.dict #[hE P "__module__" 246 (hS "cellpatches.errors" 187),hE P "__firstlineno__" 250 (.int 8 249),hE P "__static_attributes__" 251 (.ref 59),hE P "__doc__" 252 .none] 2})::
 (nat_lit 61,{cls:= .type "type",data:=Data.cls {name:=Str.ofString "NoCell",bases:=[.ref 24],mro:=[.ref 61, .ref 24, .type "ValueError", .type "Exception", .type "BaseException", .type "object"],ns:=60,qualname:=Str.ofString "NoCell"},slots:= #[some (.ref 52),none,some (hS "NoCell" 239),some (hS "NoCell" 247),some (.builtin "ValueError.__new__"),some (.bool true)]})::
 (nat_lit 64,hT #[.ref 24])::
 (nat_lit 71,hT #[])::
 (nat_lit 72,{cls:= .type "dict",data:=Data.dict #[hE P "__module__" 262 (hS "cellpatches.errors" 187),hE P "__firstlineno__" 266 (.int 10 265),hE P "__static_attributes__" 267 (.ref 71),hE P "__doc__" 268 .none] 2})::
 (nat_lit 73,{cls:= .type "type",data:=Data.cls {name:=Str.ofString "NoLetter",bases:=[.ref 24],mro:=[.ref 73, .ref 24, .type "ValueError", .type "Exception", .type "BaseException", .type "object"],ns:=72,qualname:=Str.ofString "NoLetter"},slots:= #[some (.ref 64),none,some (hS "NoLetter" 255),some (hS "NoLetter" 263),some (.builtin "ValueError.__new__"),some (.bool true)]})::
 (nat_lit 76,hT #[])::
 (nat_lit 78,hT #[hS "thing" 282])::
 (nat_lit 79,hT #[])::
 (nat_lit 81,{cls:= .type "code",data:=Data.fields #[hS "is_whole" 279,hS "is_whole" 280,hS "/claim/cut.py" 281, .int 16 0, .int 1 0, .int 0 0, .int 0 0, .int 3 0, .ref 76, .bool true, .int 181 0, .ref 77, .none, .ref 78, .ref 79, .ref 80, .int 283 0, .int 16 0,hS "/claim/cut.py" 284]})::
 (nat_lit 82,hF "is_whole" (top 10) (hS "cellpatches.boards" 271) 81)::
 (nat_lit 83,hT #[])::
 (nat_lit 85,hT #[hS "thing" 289])::
 (nat_lit 86,hT #[])::
 (nat_lit 88,{cls:= .type "code",data:=Data.fields #[hS "is_letter" 286,hS "is_letter" 287,hS "/claim/cut.py" 288, .int 18 0, .int 1 0, .int 0 0, .int 0 0, .int 3 0, .ref 83, .bool true, .int 181 0, .ref 84, .none, .ref 85, .ref 86, .ref 87, .int 290 0, .int 18 0,hS "/claim/cut.py" 291]})::
 (nat_lit 89,hF "is_letter" (top 11) (hS "cellpatches.boards" 271) 88)::
 (nat_lit 90,hT #[])::
 (nat_lit 93,{cls:= .type "code",data:=Data.fields #[hS "is_row" 293,hS "is_row" 294,hS "/claim/cut.py" 295, .int 20 0, .int 1 0, .int 0 0, .int 0 0, .int 3 0, .ref 90, .bool true, .int 181 0, .ref 91, .none, .none, .none, .ref 92, .int 296 0, .int 20 0,hS "/claim/cut.py" 297]})::
 (nat_lit 94,hF "is_row" (top 12) (hS "cellpatches.boards" 271) 93)::
 (nat_lit 95,hT #[])::
 (nat_lit 98,{cls:= .type "code",data:=Data.fields #[hS "is_board" 299,hS "is_board" 300,hS "/claim/cut.py" 301, .int 24 0, .int 1 0, .int 0 0, .int 0 0, .int 3 0, .ref 95, .bool true, .int 181 0, .ref 96, .none, .none, .none, .ref 97, .int 302 0, .int 24 0,hS "/claim/cut.py" 303]})::
 (nat_lit 99,hF "is_board" (top 13) (hS "cellpatches.boards" 271) 98)::
 (nat_lit 100,hT #[])::
 (nat_lit 102,hT #[hS "board" 308,hS "thing" 309])::
 (nat_lit 103,hT #[])::
 (nat_lit 105,{cls:= .type "code",data:=Data.fields #[hS "is_cell" 305,hS "is_cell" 306,hS "/claim/cut.py" 307, .int 30 0, .int 2 0, .int 0 0, .int 0 0, .int 3 0, .ref 100, .bool true, .int 181 0, .ref 101, .none, .ref 102, .ref 103, .ref 104, .int 310 0, .int 30 0,hS "/claim/cut.py" 311]})::
 (nat_lit 106,hF "is_cell" (top 14) (hS "cellpatches.boards" 271) 105)::
 (nat_lit 107,hT #[])::
 (nat_lit 109,hT #[hS "thing" 316])::
 (nat_lit 110,hT #[])::
 (nat_lit 112,{cls:= .type "code",data:=Data.fields #[hS "need_board" 313,hS "need_board" 314,hS "/claim/cut.py" 315, .int 36 0, .int 1 0, .int 0 0, .int 0 0, .int 3 0, .ref 107, .bool true, .int 181 0, .ref 108, .none, .ref 109, .ref 110, .ref 111, .int 317 0, .int 36 0,hS "/claim/cut.py" 318]})::
 (nat_lit 113,hF "need_board" (top 15) (hS "cellpatches.boards" 271) 112)::
 (nat_lit 114,hT #[])::
 (nat_lit 116,hT #[hS "board" 323,hS "thing" 324])::
 (nat_lit 117,hT #[])::
 (nat_lit 119,{cls:= .type "code",data:=Data.fields #[hS "need_cell" 320,hS "need_cell" 321,hS "/claim/cut.py" 322, .int 39 0, .int 2 0, .int 0 0, .int 0 0, .int 3 0, .ref 114, .bool true, .int 181 0, .ref 115, .none, .ref 116, .ref 117, .ref 118, .int 325 0, .int 39 0,hS "/claim/cut.py" 326]})::
 (nat_lit 120,hF "need_cell" (top 16) (hS "cellpatches.boards" 271) 119)::
 (nat_lit 121,hT #[])::
 (nat_lit 123,hT #[hS "thing" 331])::
 (nat_lit 124,hT #[])::
 (nat_lit 126,{cls:= .type "code",data:=Data.fields #[hS "need_letter" 328,hS "need_letter" 329,hS "/claim/cut.py" 330, .int 42 0, .int 1 0, .int 0 0, .int 0 0, .int 3 0, .ref 121, .bool true, .int 181 0, .ref 122, .none, .ref 123, .ref 124, .ref 125, .int 332 0, .int 42 0,hS "/claim/cut.py" 333]})::
 (nat_lit 127,hF "need_letter" (top 17) (hS "cellpatches.boards" 271) 126)::
 (nat_lit 128,hT #[])::
 (nat_lit 130,hT #[hS "thing" 338])::
 (nat_lit 131,hT #[])::
 (nat_lit 133,{cls:= .type "code",data:=Data.fields #[hS "need_ways" 335,hS "need_ways" 336,hS "/claim/cut.py" 337, .int 45 0, .int 1 0, .int 0 0, .int 0 0, .int 3 0, .ref 128, .bool true, .int 181 0, .ref 129, .none, .ref 130, .ref 131, .ref 132, .int 339 0, .int 45 0,hS "/claim/cut.py" 340]})::
 (nat_lit 134,hF "need_ways" (top 18) (hS "cellpatches.boards" 271) 133)::
 (nat_lit 135,hT #[])::
 (nat_lit 138,{cls:= .type "code",data:=Data.fields #[hS "cells_of_row" 342,hS "cells_of_row" 343,hS "/claim/cut.py" 344, .int 48 0, .int 2 0, .int 0 0, .int 0 0, .int 3 0, .ref 135, .bool true, .int 181 0, .ref 136, .none, .none, .none, .ref 137, .int 345 0, .int 48 0,hS "/claim/cut.py" 346]})::
 (nat_lit 139,hF "cells_of_row" (top 19) (hS "cellpatches.boards" 271) 138)::
 (nat_lit 140,hT #[])::
 (nat_lit 142,hT #[hS "board" 351,hS "found" 352,hS "row" 353])::
 (nat_lit 143,hT #[])::
 (nat_lit 145,{cls:= .type "code",data:=Data.fields #[hS "all_cells" 348,hS "all_cells" 349,hS "/claim/cut.py" 350, .int 50 0, .int 1 0, .int 0 0, .int 0 0, .int 3 0, .ref 140, .bool true, .int 181 0, .ref 141, .none, .ref 142, .ref 143, .ref 144, .int 354 0, .int 50 0,hS "/claim/cut.py" 355]})::
 (nat_lit 146,hF "all_cells" (top 20) (hS "cellpatches.boards" 271) 145)::
 (nat_lit 147,hT #[])::
 (nat_lit 149,hT #[hS "board" 360,hS "cell" 361])::
 (nat_lit 150,hT #[])::
 (nat_lit 152,{cls:= .type "code",data:=Data.fields #[hS "letter_of" 357,hS "letter_of" 358,hS "/claim/cut.py" 359, .int 55 0, .int 2 0, .int 0 0, .int 0 0, .int 3 0, .ref 147, .bool true, .int 181 0, .ref 148, .none, .ref 149, .ref 150, .ref 151, .int 362 0, .int 55 0,hS "/claim/cut.py" 363]})::
 (nat_lit 153,hF "letter_of" (top 21) (hS "cellpatches.boards" 271) 152)::
 (nat_lit 154,hT #[])::
 (nat_lit 156,hT #[hS "one" 368,hS "other" 369,hS "ways" 370,hS "down" 371,hS "along" 372])::
 (nat_lit 157,hT #[])::
 (nat_lit 159,{cls:= .type "code",data:=Data.fields #[hS "are_next" 365,hS "are_next" 366,hS "/claim/cut.py" 367, .int 57 0, .int 3 0, .int 0 0, .int 0 0, .int 3 0, .ref 154, .bool true, .int 181 0, .ref 155, .none, .ref 156, .ref 157, .ref 158, .int 373 0, .int 57 0,hS "/claim/cut.py" 374]})::
 (nat_lit 160,hF "are_next" (top 22) (hS "cellpatches.boards" 271) 159)::
 (nat_lit 161,hT #[])::
 (nat_lit 163,hT #[hS "board" 379,hS "cell" 380,hS "ways" 381,hS "found" 382,hS "row" 383,hS "column" 384])::
 (nat_lit 164,hT #[])::
 (nat_lit 166,{cls:= .type "code",data:=Data.fields #[hS "next_cells" 376,hS "next_cells" 377,hS "/claim/cut.py" 378, .int 63 0, .int 3 0, .int 0 0, .int 0 0, .int 3 0, .ref 161, .bool true, .int 181 0, .ref 162, .none, .ref 163, .ref 164, .ref 165, .int 385 0, .int 63 0,hS "/claim/cut.py" 386]})::
 (nat_lit 167,hF "next_cells" (top 23) (hS "cellpatches.boards" 271) 166)::
 (nat_lit 168,hT #[])::
 (nat_lit 170,hT #[hS "things" 391,hS "found" 392,hS "thing" 393])::
 (nat_lit 171,hT #[])::
 (nat_lit 173,{cls:= .type "code",data:=Data.fields #[hS "keyed" 388,hS "keyed" 389,hS "/claim/cut.py" 390, .int 70 0, .int 1 0, .int 0 0, .int 0 0, .int 3 0, .ref 168, .bool true, .int 181 0, .ref 169, .none, .ref 170, .ref 171, .ref 172, .int 394 0, .int 70 0,hS "/claim/cut.py" 395]})::
 (nat_lit 174,hF "keyed" (top 24) (hS "cellpatches.boards" 271) 173)::
 (nat_lit 175,hT #[])::
 (nat_lit 178,{cls:= .type "code",data:=Data.fields #[hS "mirrored" 397,hS "mirrored" 398,hS "/claim/cut.py" 399, .int 75 0, .int 1 0, .int 0 0, .int 0 0, .int 3 0, .ref 175, .bool true, .int 181 0, .ref 176, .none, .none, .none, .ref 177, .int 400 0, .int 75 0,hS "/claim/cut.py" 401]})::
 (nat_lit 179,hF "mirrored" (top 25) (hS "cellpatches.boards" 271) 178)::
 (nat_lit 180,hT #[])::
 (nat_lit 183,{cls:= .type "code",data:=Data.fields #[hS "part_between" 405,hS "part_between" 406,hS "/claim/cut.py" 407, .int 79 0, .int 5 0, .int 0 0, .int 0 0, .int 3 0, .ref 180, .bool true, .int 181 0, .ref 181, .none, .none, .none, .ref 182, .int 408 0, .int 79 0,hS "/claim/cut.py" 409]})::
 (nat_lit 184,hF "part_between" (top 27) (hS "cellpatches.parts" 403) 183)::
 (nat_lit 185,hT #[])::
 (nat_lit 187,hT #[hS "board" 414,hS "part" 415,hS "cell" 416,hS "low" 417,hS "right" 418])::
 (nat_lit 188,hT #[])::
 (nat_lit 190,{cls:= .type "code",data:=Data.fields #[hS "lies_at" 411,hS "lies_at" 412,hS "/claim/cut.py" 413, .int 81 0, .int 3 0, .int 0 0, .int 0 0, .int 3 0, .ref 185, .bool true, .int 181 0, .ref 186, .none, .ref 187, .ref 188, .ref 189, .int 419 0, .int 81 0,hS "/claim/cut.py" 420]})::
 (nat_lit 191,hF "lies_at" (top 28) (hS "cellpatches.parts" 403) 190)::
 (nat_lit 192,hT #[])::
 (nat_lit 195,{cls:= .type "code",data:=Data.fields #[hS "with_names" 422,hS "with_names" 423,hS "/claim/cut.py" 424, .int 85 0, .int 2 0, .int 0 0, .int 0 0, .int 3 0, .ref 192, .bool true, .int 181 0, .ref 193, .none, .none, .none, .ref 194, .int 425 0, .int 85 0,hS "/claim/cut.py" 426]})::
 (nat_lit 196,hF "with_names" (top 29) (hS "cellpatches.parts" 403) 195)::
 (nat_lit 197,hT #[])::
 (nat_lit 199,hT #[hS "board" 431,hS "top" 432,hS "left" 433,hS "low" 434,hS "right" 435])::
 (nat_lit 200,hT #[])::
 (nat_lit 202,{cls:= .type "code",data:=Data.fields #[hS "cut_out" 428,hS "cut_out" 429,hS "/claim/cut.py" 430, .int 90 0, .int 5 0, .int 0 0, .int 0 0, .int 3 0, .ref 197, .bool true, .int 181 0, .ref 198, .none, .ref 199, .ref 200, .ref 201, .int 436 0, .int 90 0,hS "/claim/cut.py" 437]})::
 (nat_lit 203,hF "cut_out" (top 30) (hS "cellpatches.parts" 403) 202)::
 (nat_lit 204,hT #[])::
 (nat_lit 207,{cls:= .type "code",data:=Data.fields #[hS "found_in" 439,hS "found_in" 440,hS "/claim/cut.py" 441, .int 97 0, .int 2 0, .int 0 0, .int 0 0, .int 3 0, .ref 204, .bool true, .int 181 0, .ref 205, .none, .none, .none, .ref 206, .int 442 0, .int 97 0,hS "/claim/cut.py" 443]})::
 (nat_lit 208,hF "found_in" (top 31) (hS "cellpatches.parts" 403) 207)::
 (nat_lit 209,hT #[])::
 (nat_lit 211,hT #[hS "board" 448,hS "names" 449,hS "sign" 450])::
 (nat_lit 212,hT #[])::
 (nat_lit 214,{cls:= .type "code",data:=Data.fields #[hS "relettered" 445,hS "relettered" 446,hS "/claim/cut.py" 447, .int 101 0, .int 1 0, .int 0 0, .int 0 0, .int 3 0, .ref 209, .bool true, .int 181 0, .ref 210, .none, .ref 211, .ref 212, .ref 213, .int 451 0, .int 101 0,hS "/claim/cut.py" 452]})::
 (nat_lit 215,hF "relettered" (top 32) (hS "cellpatches.parts" 403) 214)::
 (nat_lit 216,hT #[])::
 (nat_lit 218,hT #[hS "one" 457,hS "other" 458])::
 (nat_lit 219,hT #[])::
 (nat_lit 221,{cls:= .type "code",data:=Data.fields #[hS "are_like" 454,hS "are_like" 455,hS "/claim/cut.py" 456, .int 108 0, .int 2 0, .int 0 0, .int 0 0, .int 3 0, .ref 216, .bool true, .int 181 0, .ref 217, .none, .ref 218, .ref 219, .ref 220, .int 459 0, .int 108 0,hS "/claim/cut.py" 460]})::
 (nat_lit 222,hF "are_like" (top 33) (hS "cellpatches.parts" 403) 221)::
 (nat_lit 223,hT #[])::
 (nat_lit 225,hT #[hS "board" 465,hS "one" 466,hS "other" 467])::
 (nat_lit 226,hT #[])::
 (nat_lit 228,{cls:= .type "code",data:=Data.fields #[hS "swapped" 462,hS "swapped" 463,hS "/claim/cut.py" 464, .int 110 0, .int 3 0, .int 0 0, .int 0 0, .int 3 0, .ref 223, .bool true, .int 181 0, .ref 224, .none, .ref 225, .ref 226, .ref 227, .int 468 0, .int 110 0,hS "/claim/cut.py" 469]})::
 (nat_lit 229,hF "swapped" (top 34) (hS "cellpatches.parts" 403) 228)::
 (nat_lit 230,hT #[])::
 (nat_lit 233,{cls:= .type "code",data:=Data.fields #[hS "like_cells" 473,hS "like_cells" 474,hS "/claim/cut.py" 475, .int 116 0, .int 3 0, .int 0 0, .int 0 0, .int 3 0, .ref 230, .bool true, .int 181 0, .ref 231, .none, .none, .none, .ref 232, .int 476 0, .int 116 0,hS "/claim/cut.py" 477]})::
 (nat_lit 234,hF "like_cells" (top 36) (hS "cellpatches.patches" 471) 233)::
 (nat_lit 235,hT #[])::
 (nat_lit 237,hT #[hS "board" 482,hS "start" 483,hS "ways" 484,hS "back" 485,hS "ring" 486,hS "further" 487,hS "cell" 488,hS "near" 489])::
 (nat_lit 238,hT #[])::
 (nat_lit 240,{cls:= .type "code",data:=Data.fields #[hS "steps_back" 479,hS "steps_back" 480,hS "/claim/cut.py" 481, .int 119 0, .int 3 0, .int 0 0, .int 0 0, .int 3 0, .ref 235, .bool true, .int 181 0, .ref 236, .none, .ref 237, .ref 238, .ref 239, .int 490 0, .int 119 0,hS "/claim/cut.py" 491]})::
 (nat_lit 241,hF "steps_back" (top 37) (hS "cellpatches.patches" 471) 240)::
 (nat_lit 242,hT #[])::
 (nat_lit 244,hT #[hS "board" 496,hS "ways" 497,hS "found" 498,hS "seen" 499,hS "cell" 500,hS "patch" 501])::
 (nat_lit 245,hT #[])::
 (nat_lit 247,{cls:= .type "code",data:=Data.fields #[hS "all_patches" 493,hS "all_patches" 494,hS "/claim/cut.py" 495, .int 131 0, .int 2 0, .int 0 0, .int 0 0, .int 3 0, .ref 242, .bool true, .int 181 0, .ref 243, .none, .ref 244, .ref 245, .ref 246, .int 502 0, .int 131 0,hS "/claim/cut.py" 503]})::
 (nat_lit 248,hF "all_patches" (top 38) (hS "cellpatches.patches" 471) 247)::
 (nat_lit 249,hT #[])::
 (nat_lit 251,hT #[hS "board" 508,hS "ways" 509])::
 (nat_lit 252,hT #[])::
 (nat_lit 254,{cls:= .type "code",data:=Data.fields #[hS "patches" 505,hS "patches" 506,hS "/claim/cut.py" 507, .int 140 0, .int 2 0, .int 0 0, .int 0 0, .int 3 0, .ref 249, .bool true, .int 181 0, .ref 250, .none, .ref 251, .ref 252, .ref 253, .int 510 0, .int 140 0,hS "/claim/cut.py" 511]})::
 (nat_lit 255,hF "patches" (top 39) (hS "cellpatches.patches" 471) 254)::
 (nat_lit 256,hT #[])::
 (nat_lit 258,hT #[hS "_law_script" 518,hS "_law_k" 519])::
 (nat_lit 259,hT #[])::
 (nat_lit 261,{cls:= .type "code",data:=Data.fields #[hS "_law_cell" 515,hS "_law_cell" 516,hS "/claim/cut.py" 517, .int 145 0, .int 2 0, .int 0 0, .int 0 0, .int 3 0, .ref 256, .bool true, .int 181 0, .ref 257, .none, .ref 258, .ref 259, .ref 260, .int 520 0, .int 145 0,hS "/claim/cut.py" 521]})::
 (nat_lit 262,hF "_law_cell" (top 41) (hS "law_cellpatches_k77_whole_parts" 513) 261)::
 (nat_lit 263,hT #[])::
 (nat_lit 265,hT #[hS "_law_script" 526,hS "_law_k" 527,hS "_law_many" 528,hS "_law_cell_here" 529])::
 (nat_lit 266,hT #[])::
 (nat_lit 268,{cls:= .type "code",data:=Data.fields #[hS "_law_drawn" 523,hS "_law_drawn" 524,hS "/claim/cut.py" 525, .int 149 0, .int 3 0, .int 0 0, .int 0 0, .int 3 0, .ref 263, .bool true, .int 181 0, .ref 264, .none, .ref 265, .ref 266, .ref 267, .int 530 0, .int 149 0,hS "/claim/cut.py" 531]})::
 (nat_lit 269,hF "_law_drawn" (top 42) (hS "law_cellpatches_k77_whole_parts" 513) 268)::
 (nat_lit 270,hT #[])::
 (nat_lit 273,{cls:= .type "code",data:=Data.fields #[hS "_law_board" 533,hS "_law_board" 534,hS "/claim/cut.py" 535, .int 153 0, .int 3 0, .int 0 0, .int 0 0, .int 3 0, .ref 270, .bool true, .int 181 0, .ref 271, .none, .none, .none, .ref 272, .int 536 0, .int 153 0,hS "/claim/cut.py" 537]})::
 (nat_lit 274,hF "_law_board" (top 43) (hS "law_cellpatches_k77_whole_parts" 513) 273)::
 (nat_lit 275,hT #[])::
 (nat_lit 277,hT #[hS "_law_script" 542,hS "_law_at" 543,hS "_law_board_here" 544])::
 (nat_lit 278,hT #[])::
 (nat_lit 280,{cls:= .type "code",data:=Data.fields #[hS "_law_cell_in" 539,hS "_law_cell_in" 540,hS "/claim/cut.py" 541, .int 162 0, .int 3 0, .int 0 0, .int 0 0, .int 3 0, .ref 275, .bool true, .int 181 0, .ref 276, .none, .ref 277, .ref 278, .ref 279, .int 545 0, .int 162 0,hS "/claim/cut.py" 546]})::
 (nat_lit 281,hF "_law_cell_in" (top 44) (hS "law_cellpatches_k77_whole_parts" 513) 280)::
 (nat_lit 282,hT #[])::
 (nat_lit 285,{cls:= .type "code",data:=Data.fields #[hS "law" 548,hS "law" 549,hS "/claim/cut.py" 550, .int 164 0, .int 1 0, .int 0 0, .int 0 0, .int 3 0, .ref 282, .bool true, .int 181 0, .ref 283, .none, .none, .none, .ref 284, .int 551 0, .int 164 0,hS "/claim/cut.py" 552]})::
 (nat_lit 286,hF "law" (top 45) (hS "law_cellpatches_k77_whole_parts" 513) 285)::[]
def nz:List Nat:=[2,3,15,22,23,24,25,28,35,36,37,40,47,48,49,52,59,60,61,64,71,72,73,76,78,79,81,82,83,85,86,88,89,90,93,94,95,98,99,100,102,103,105,106,107,109,110,112,113,114,116,117,119,120,121,123,124,126,127,128,130,131,133,134,135,138,139,140,142,143,145,146,147,149,150,152,153,154,156,157,159,160,161,163,164,166,167,168,170,171,173,174,175,178,179,180,183,184,185,187,188,190,191,192,195,196,197,199,200,202,203,204,207,208,209,211,212,214,215,216,218,219,221,222,223,225,226,228,229,230,233,234,235,237,238,240,241,242,244,245,247,248,249,251,252,254,255,256,258,259,261,262,263,265,266,268,269,270,273,274,275,277,278,280,281,282,285,286]
def vv:Program:={PySem.Challenge.pw_cellpatches_k77_whole_parts with main:={PySem.Challenge.pw_cellpatches_k77_whole_parts.main with body:=[top 1,top 2,top 3,top 4,top 5,top 7,top 8,top 9,top 10,top 11,top 12,top 13,top 14,top 15,top 16,top 17,top 18,top 19,top 20,top 21,top 22,top 23,top 24,top 25,top 27,top 28,top 29,top 30,top 31,top 32,top 33,top 34,top 36,top 37,top 38,top 39,top 41,top 42,top 43,top 44,top 45]} }
open PySem.W PyProof.Rows in
set_option maxHeartbeats 0 in
theorem IM:LeftO PySem.Challenge.rw_cellpatches_k77_whole_parts.row.prog vv [] (fun s=>xlAt vv [] s&&recOk PySem.Challenge.rw_cellpatches_k77_whole_parts.row.records s) (kHook nA nz (fun _=>by kernel_rfl)).obs (kHook nA nz (fun _=>by kernel_rfl)).val 4296:=fun w=>by kernel_rfl
end K1
namespace L2
open PySem PySem.Spec PyProof.Rows
abbrev Key:=Sum Int Str
def nP:Key→Value→Bool
 | .inl k,v=>Value.isInt k v
 | .inr x,v=>Value.isStrOf x v
def Jh(w:World):Key→Int
 | .inl k=>hashInt k
 | .inr x=>hashStr w x
theorem bz:∀{k:Key}{v:Value},nP k v=true→(∃i t,k=Sum.inl i∧v=Value.int i t)∨(∃x t,k=Sum.inr x∧v=Value.str x t)
 | .inl i,v,h=>by
   obtain⟨t,e⟩:=Value.isInt_shape (k:=i) (v:=v) h
   exact .inl ⟨i,t,rfl,e⟩
 | .inr x,v,h=>by
   obtain⟨t,e⟩:=Value.isStrOf_shape (x:=x) (v:=v) h
   exact .inr ⟨x,t,rfl,e⟩
theorem zb(i:Int)(t:Tok):nP (.inl i) (.int i t)=true:=by simp[nP,Value.isInt]
theorem zc(x:Str)(t:Tok):nP (.inr x) (.str x t)=true:=by simp[nP,Value.isStrOf]
theorem Gv(a b:Int):decide ((Sum.inl a:Key)=Sum.inl b)=(a==b):=by
 by_cases e:a=b
 ·subst e;simp
 ·have h:¬(Sum.inl a:Key)=Sum.inl b:=fun q=>e (Sum.inl.inj q)
  rw[decide_eq_false h]
  exact(beq_eq_false_iff_ne.mpr e).symm
theorem Gy(a b:Str):decide ((Sum.inr a:Key)=Sum.inr b)=decide (a=b):=by
 by_cases e:a=b
 ·subst e;simp
 ·have h:¬(Sum.inr a:Key)=Sum.inr b:=fun q=>e (Sum.inr.inj q)
  rw[decide_eq_false h,decide_eq_false e]
theorem Gw(a:Int)(b:Str):decide ((Sum.inl a:Key)=Sum.inr b)=false:=decide_eq_false (fun q=>nomatch q)
theorem Gx(a:Str)(b:Int):decide ((Sum.inr a:Key)=Sum.inl b)=false:=decide_eq_false (fun q=>nomatch q)
def aV(prog:Program)(w:World):PySem.KeyKind prog w Key where
 is:=nP
 hash:=Jh w
 inj:=fun v a b ha hb=>by
  rcases bz ha with⟨i,t,rfl,rfl⟩ | ⟨x,t,rfl,rfl⟩
  ·rcases bz hb with⟨j,u,rfl,e⟩ | ⟨y,u,rfl,e⟩
   ·injection e with e1 _;rw[e1]
   ·exact nomatch e
  ·rcases bz hb with⟨j,u,rfl,e⟩ | ⟨y,u,rfl,e⟩
   ·exact nomatch e
   ·injection e with e1 _;rw[e1]
 byValue:=fun k v h=>by
  rcases bz h with⟨i,t,rfl,rfl⟩ | ⟨x,t,rfl,rfl⟩<;>rfl
 pyHash:=fun hv h=>by
  rcases bz hv with⟨i,t,rfl,rfl⟩ | ⟨x,t,rfl,rfl⟩
  ·exact wpAny_pyHash_int h
  ·exact wpAny_pyHash_str h
 eqBool:=fun hu hv h=>by
  rcases bz hu with⟨i,t,rfl,rfl⟩ | ⟨x,t,rfl,rfl⟩
  ·rcases bz hv with⟨j,u,rfl,rfl⟩ | ⟨y,u,rfl,rfl⟩
   ·rw[Gv] at h;exact wpAny_eqBool_int h
   ·rw[Gw] at h;exact SeqAt.EqAt.int_str i t y u _ _ _ _ h
  ·rcases bz hv with⟨j,u,rfl,rfl⟩ | ⟨y,u,rfl,rfl⟩
   ·rw[Gx] at h;exact SeqAt.EqAt.str_int x t j u _ _ _ _ h
   ·rw[Gy] at h;exact wpAny_eqBool_str h
 «strs» :=fun k x t v h=>by
  rcases bz h with⟨i,u,rfl,e⟩ | ⟨y,u,rfl,e⟩
  ·exact nomatch e
  ·injection e with e1 _
   subst e1
   cases v<;>rfl
theorem uC(prog:Program)(w:World)(i:Int)(t:Tok):(aV prog w).is (.inl i) (.int i t)=true:=zb i t
theorem uD(prog:Program)(w:World)(x:Str)(t:Tok):(aV prog w).is (.inr x) (.str x t)=true:=zc x t
inductive V where
 |non | bl (b:Bool) | int (i:Int) | str (x:Str) | byt (b:Array UInt8) | flt (b:UInt64) | ref (a:Addr) | ty (n:String)
 deriving DecidableEq
def RelV:V→Value→Prop
 | .non,u=>u=Value.none
 | .bl b,u=>u=Value.bool b
 | .int i,u=>∃t,u=Value.int i t
 | .str x,u=>∃t,u=Value.str x t
 | .byt b,u=>∃t,u=Value.bytes b t
 | .flt b,u=>∃t,u=Value.float b t
 | .ref a,u=>u=Value.ref a
 | .ty n,u=>u=Value.type n
abbrev Vals:List V→List Value→Prop:=Paired RelV
theorem Vals.length{xs:List V}{us:List Value}(r:Vals xs us):xs.length=us.length:=Paired.length r
theorem Vals.get:∀{xs:List V}{us:List Value}{i:Nat}{x:V},Vals xs us→xs[i]? =some x→∃u,us[i]? =some u∧RelV x u
 |_,_,_,_, .nil,e=>by simp at e
 |_,_,0,_, .cons r _,e=>by simp at e;subst e;exact⟨_,rfl,r⟩
 |_,_,i+1,x, .cons _ t,e=>by
  obtain⟨u,h1,h2⟩:=Vals.get (i:=i) (x:=x) t (by simpa using e)
  exact⟨u,by simpa using h1,h2⟩
theorem Vals.append:∀{xs ys:List V}{us ws:List Value},Vals xs us→Vals ys ws→Vals (xs++ys) (us++ws)
 |_,_,_,_, .nil,s=>s
 |_,_,_,_, .cons r t,s=> .cons r (Vals.append t s)
theorem Vals.take:∀{xs:List V}{us:List Value}(n:Nat),Vals xs us→Vals (xs.take n) (us.take n)
 |_,_,0,_=> .nil
 |_,_,_+1, .nil=> .nil
 |_,_,n+1, .cons r t=> .cons r (Vals.take n t)
theorem Vals.drop:∀{xs:List V}{us:List Value}(n:Nat),Vals xs us→Vals (xs.drop n) (us.drop n)
 |_,_,0,r=>r
 |_,_,_+1, .nil=> .nil
 |_,_,n+1, .cons _ t=>Vals.drop n t
def RelO:Option V→Option Value→Prop
 |some v,some u=>RelV v u
 |none,none=>True
 |_,_=>False
def KV{κ:Type}:List (κ×V)→List (κ×Value)→Prop:=Paired fun(p:κ×V) (q:κ×Value)=>p.1=q.1∧RelV p.2 q.2
def kV:Key→V
 | .inl i=> .int i
 | .inr x=> .str x
inductive HO where
 |lst (xs:List V)
 |tup (xs:List V)
 |dK (aw:List (Key×V)) | dT (aw:List (List Key×V))
 |set (S:Int→Bool) (n:Nat)
 |ins (C dx:Addr) (fs:List (Str×V))
 |own (x:Addr)
 |xd (fs:List (Str×V))
 |met (f x:Addr)
 |rng (lo hi:Int)
 |frz (o:Obj) (u:HO)
 |tbl (ps:Array Value)
 |ext (φ:Heap→Prop)
abbrev Hp:=Addr→Option HO
def upd(H:Hp)(a:Addr)(o:HO):Hp:=fun b=>if b=a then some o else H b
theorem az{H:Hp}{a:Addr}{o:HO}:upd H a o a=some o:=by unfold upd;rw[if_pos rfl]
theorem av{H:Hp}{a b:Addr}{o:HO}(h:b≠a):upd H a o b=H b:=by unfold upd;rw[if_neg h]
theorem Bo{H:Hp}{a b:Addr}{o u:HO}(h:H a=some o)(h':H b=some u)(d:o≠u):a≠b:=by
 intro e;subst e;rw[h] at h';exact d (Option.some.inj h')
theorem bN{H:Hp}{a b:Addr}{o:HO}(h:H a=some o)(h':H b=none):a≠b:=by
 intro e;subst e;rw[h] at h';cases h'
section
variable(P:Program)(w:World)
def ObjOk(H:Hp)(h:Heap)(a:Addr):HO→Prop
 | .lst xs=>xs.length≤sizeLine∧∃(aF:List Value) (n:Nat),Vals xs aF∧h.get? a=some {cls:= .type "list",data:= .seq aF.toArray n}
 | .tup xs=>xs.length≤sizeLine∧∃aF:List Value,Vals xs aF∧IsTup h a aF.toArray
 | .dK aw=>aw.length≤sizeLine∧(a==sysModules)=false∧∃vs,KV aw vs∧h.DictOf (aV P w) a vs
 | .dT aw=>aw.length≤sizeLine∧(a==sysModules)=false∧∃xs:List (List Key×Addr×Value),
    Paired (fun (p:List Key×V) (q:List Key×Addr×Value)=>p.1=q.1∧H q.2.1=some (.tup (p.1.map kV))∧RelV p.2 q.2.2) aw xs∧
    ∃o es ep,h.get? a=some o∧o.ExactDict∧o.data= .dict es ep∧es.toList=xs.map (entryOfKey (tupleKind (aV P w)))∧(xs.map (·.1)).Nodup
 | .set S n=>h.SetOf (intKind P w) a S n
 | .ins C dx fs=>H dx=some (.own a)∧fs.length≤1000∧dx≠a∧h.get? a=some (PySem.W.instObj C dx)∧
    ∃mA,h.Ns1 dx mA∧(∀f,RelO (fs.lookup f) (mA f))∧PySem.Within mA (fs.map (·.1))
 | .own _=>∃o,h.get? a=some o
 | .xd fs=>∃mA,h.Ns1 a mA∧∀f,RelO (fs.lookup f) (mA f)
 | .rng lo hi=>∃t u v,h.get? a=some {cls:= .type "range",data:= .fields #[.int lo t, .int hi u, .int 1 v]}
 | .frz o u=>h.get? a=some o∧ObjOk H h a u
 | .tbl ps=>h.get? a=some {cls:= .none,data:= .fields ps}
 | .met f x=>h.get? a=some (PySem.W.methodObj (.ref f) (.ref x))
 | .ext φ=>φ h∧(∃o,h.get? a=some o)∧∀h1 h2:Heap,φ h1→(∀o,h1.get? a=some o→h2.get? a=some o)→φ h2
def HOk(H:Hp)(h:Heap):Prop:=∀a o,H a=some o→ObjOk P w H h a o
end
section
variable{P:Program}{w:World}{H H':Hp}{h h':Heap}{a:Addr}{o:HO}
theorem ObjOk.lt(x:ObjOk P w H h a o):a<h.objs.size:=by
 cases o with
 |lst xs=>obtain⟨_,_,_,_,e⟩:=x;exact Heap.lt_size e
 |tup xs=>obtain⟨_,_,_,p⟩:=x;exact p.lt
 |dK aw=>obtain⟨_,_,_,_,o,_,_,e,_⟩:=x;exact Heap.lt_size e
 |dT aw=>obtain⟨_,_,_,_,o,_,_,e,_⟩:=x;exact Heap.lt_size e
 |set S n=>obtain⟨o,_,_,_,e,_⟩:=x;exact Heap.lt_size e
 |ins C dx fs=>obtain⟨_,_,_,e,_⟩:=x;exact Heap.lt_size e
 |own y=>obtain⟨_,e⟩:=x;exact Heap.lt_size e
 |xd fs=>obtain⟨_,⟨_,_,_,e,_⟩,_⟩:=x;exact Heap.lt_size e
 |rng lo hi=>obtain⟨_,_,_,e⟩:=x;exact Heap.lt_size e
 |frz ob u=>obtain⟨e,_⟩:=x;exact Heap.lt_size e
 |tbl ps=>exact Heap.lt_size (show h.get? a=some _ from x)
 |met f y=>exact Heap.lt_size (show h.get? a=some _ from x)
 |ext φ=>obtain⟨_,⟨_,e⟩,_⟩:=x;exact Heap.lt_size e
theorem Paired.mapP{α β:Type}{F G:α→β→Prop}:∀{l₁:List α}{l₂:List β},Paired F l₁ l₂→(∀a b,F a b→G a b)→Paired G l₁ l₂
 |_,_, .nil,_=> .nil
 |_,_, .cons r t,f=> .cons (f _ _ r) (Paired.mapP t f)
theorem ObjOk.stay(x:ObjOk P w H h a o)(k:∀b u,(b=a∨H b=some (.own a))→h.get? b=some u→h'.get? b=some u)
 (ho:∀b,H b=some (.own a)→H' b=some (.own a))(ht:∀b xs,H b=some (.tup xs)→H' b=some (.tup xs)):ObjOk P w H' h' a o:=by
 induction o with
 |lst xs=>obtain⟨z,aF,n,r,e⟩:=x;exact⟨z,aF,n,r,k _ _ (.inl rfl) e⟩
 |tup xs=>obtain⟨z,aF,r,ob,e,c⟩:=x;exact⟨z,aF,r,ob,k _ _ (.inl rfl) e,c⟩
 |dK aw=>obtain⟨z,y,vs,r,ob,es,ep,e,c⟩:=x;exact⟨z,y,vs,r,ob,es,ep,k _ _ (.inl rfl) e,c⟩
 |dT aw=>
  obtain⟨z,y,xs,r,ob,es,ep,e,c⟩:=x
  exact⟨z,y,xs,Paired.mapP r fun p q z=>⟨z.1,ht _ _ z.2.1,z.2.2⟩,ob,es,ep,k _ _ (.inl rfl) e,c⟩
 |set S n=>obtain⟨ob,es,ep,t,e,c⟩:=x;exact⟨ob,es,ep,t,k _ _ (.inl rfl) e,c⟩
 |ins C dx fs=>
  obtain⟨d,z,ne,e,mA,⟨od,es,ep,e2,c⟩,r⟩:=x
  exact⟨ho _ d,z,ne,k _ _ (.inl rfl) e,mA,⟨od,es,ep,k _ _ (.inr d) e2,c⟩,r⟩
 |own y=>obtain⟨ob,e⟩:=x;exact⟨ob,k _ _ (.inl rfl) e⟩
 |xd fs=>obtain⟨mA,⟨od,es,ep,e,c⟩,r⟩:=x;exact⟨mA,⟨od,es,ep,k _ _ (.inl rfl) e,c⟩,r⟩
 |rng lo hi=>obtain⟨t,u,v,e⟩:=x;exact⟨t,u,v,k _ _ (.inl rfl) e⟩
 |frz ob u ih=>obtain⟨e,q⟩:=x;exact⟨k _ _ (.inl rfl) e,ih q⟩
 |tbl ps=>
  have e:h.get? a=some {cls:= .none,data:= .fields ps}:=x
  show h'.get? a=some {cls:= .none,data:= .fields ps}
  exact k a _ (.inl rfl) e
 |met f y=>
  have e:h.get? a=some (PySem.W.methodObj (.ref f) (.ref y)):=x
  show h'.get? a=some (PySem.W.methodObj (.ref f) (.ref y))
  exact k a _ (.inl rfl) e
 |ext φ=>obtain⟨p,⟨o,e⟩,st⟩:=x;exact⟨st _ _ p fun o q=>k _ _ (.inl rfl) q,⟨o,k _ _ (.inl rfl) e⟩,st⟩
theorem HOk.lt(x:HOk P w H h)(e:H a=some o):a<h.objs.size:=(x a o e).lt
theorem HOk.fresh(x:HOk P w H h)(e:h.objs.size≤a):H a=none:=by
 cases q:H a with
 |none=>rfl
 |some u=>exact absurd (Nat.lt_of_lt_of_le (x.lt q) e) (Nat.lt_irrefl _)
theorem HOk.kept(x:HOk P w H h)(k:∀b u,h.get? b=some u→h'.get? b=some u):HOk P w H h':=fun a o e=>
 (x a o e).stay (fun b u _ q=>k b u q) (fun _ q=>q) fun _ _ q=>q
theorem HOk.laid(x:HOk P w H h)(k:∀b u,h.get? b=some u→h'.get? b=some u)(hp:h.objs.size≤a)(new:ObjOk P w (upd H a o) h' a o):HOk P w (upd H a o) h':=fun b u e=>by
 have hn:=x.fresh hp
 by_cases hb:b=a
 ·subst hb;rw[az] at e;cases e;exact new
 ·rw[av hb] at e
  exact(x b u e).stay (fun c v _ q=>k c v q) (fun c q=>by rw[av (bN q hn)];exact q) fun c xs q=>by rw[av (bN q hn)];exact q
end
def Rd(H:Hp)(a:Addr)(u:HO):Prop:=H a=some u∨∃o,H a=some (.frz o u)
theorem Rd.ok{P:Program}{w:World}{H:Hp}{h:Heap}{a:Addr}{u:HO}(r:Rd H a u)(x:HOk P w H h):ObjOk P w H h a u:=by
 rcases r with r | ⟨o,r⟩
 ·exact x a u r
 ·obtain⟨_,q⟩:=x a _ r
  exact q
def HX:Option HO→Prop
 |some (.lst _)=>True
 |some (.dK _)=>True
 |some (.dT _)=>True
 |some (.set _ _)=>True
 |some (.ins _ _ _)=>True
 |some (.ext _)=>True
 |_=>False
section
variable{P:Program}{w:World}{H:Hp}{h h':Heap}{x e:Addr}{o':HO}
theorem HOk.write(ok:HOk P w H h)(mu:HX (H x))(he:e=x∨H e=some (.own x))(k:∀b u,b≠e→h.get? b=some u→h'.get? b=some u)(z6:∃u,h'.get? e=some u)
 (new:ObjOk P w (upd H x o') h' x o'):HOk P w (upd H x o') h':=fun b u q=>by
 have Jl:∀c y,H c=some (.own y)→c≠x:=fun c y r z=>by subst z;rw[r] at mu;exact mu
 have LY:∀c xs,H c=some (.tup xs)→c≠x:=fun c xs r z=>by subst z;rw[r] at mu;exact mu
 by_cases hb:b=x
 ·subst hb;rw[az] at q;cases q;exact new
 ·rw[av hb] at q
  by_cases FR:b=e
  ·have q':H b=some (.own x):=by
    rcases he with z | z
    ·exact absurd (FR.trans z) hb
    ·rw[FR];exact z
   rw[q] at q';cases q'
   obtain⟨v,hv⟩:=z6
   exact⟨v,by rw[FR];exact hv⟩
  ·refine(ok b u q).stay (fun c v hc r=>k c v ?_ r) (fun c r=>by rw[av (Jl c b r)];exact r) fun c xs r=>by rw[av (LY c xs r)];exact r
   rcases hc with rfl | hc
   ·exact FR
   ·rintro rfl
    rcases he with z | z
    ·exact Jl c b hc z
    ·rw[hc] at z;cases z;exact hb rfl
end
structure Un (fs ex:List Addr) (H H':Hp) (h h':Heap):Prop where
 keep:∀b o,h.get? b=some o→H b=none→b∉fs→b∉ex→h'.get? b=some o
 slot:∀b o,h.get? b=some o→H b=none→b∈fs→b∉ex→∃sl,h'.get? b=some {o with slots:=sl}
 free:∀b o,h.get? b=some o→H b=none→b∉ex→H' b=none
 there:∀b o,h.get? b=some o→b∉ex→∃o',h'.get? b=some o'
 tups:∀b xs,H b=some (.tup xs)→H' b=some (.tup xs)
 frzs:∀b o u,H b=some (.frz o u)→H' b=some (.frz o u)
 tbls:∀b ps,H b=some (.tbl ps)→∃more,H' b=some (.tbl (ps++more))
section
variable{fs KJ ex vX:List Addr}{H H1 H2:Hp}{h h1 h2 h':Heap}{a x e:Addr}{o:HO}
theorem Un.any(u:Un fs ex H H1 h h1){b:Addr}{ob:Obj}(q:h.get? b=some ob)(n:H b=none)(hx:b∉ex):∃sl,h1.get? b=some {ob with slots:=sl}:=by
 by_cases hb:b∈fs
 ·exact u.slot b ob q n hb hx
 ·exact⟨ob.slots,u.keep b ob q n hb hx⟩
theorem Un.trans(a:Un fs ex H H1 h h1)(b:Un fs ex H1 H2 h1 h2):Un fs ex H H2 h h2 where
 keep:=fun c ob q n hc hx=>b.keep c ob (a.keep c ob q n hc hx) (a.free c ob q n hx) hc hx
 slot:=fun c ob q n hc hx=>by
  obtain⟨sl,e1⟩:=a.slot c ob q n hc hx
  obtain⟨Hn,e2⟩:=b.slot c _ e1 (a.free c ob q n hx) hc hx
  exact⟨Hn,e2⟩
 free:=fun c ob q n hx=>by
  obtain⟨o',e1⟩:=a.there c ob q hx
  exact b.free c o' e1 (a.free c ob q n hx) hx
 there:=fun c ob q hx=>by
  obtain⟨o',e1⟩:=a.there c ob q hx
  exact b.there c o' e1 hx
 tups:=fun c xs q=>b.tups c xs (a.tups c xs q)
 frzs:=fun c ob xs q=>b.frzs c ob xs (a.frzs c ob xs q)
 tbls:=fun c ps q=>by
  obtain⟨m1,e1⟩:=a.tbls c ps q
  obtain⟨m2,e2⟩:=b.tbls c _ e1
  exact⟨m1++m2,by rw[e2,Array.append_assoc]⟩
theorem Un.kept(k:∀b u,h.get? b=some u→h'.get? b=some u):Un fs ex H H h h':=
 ⟨fun b ob q _ _ _=>k b ob q,fun b ob q _ _ _=>⟨ob.slots,k b ob q⟩,fun _ _ _ n _=>n,fun b ob q _=>⟨ob,k b ob q⟩,fun _ _ q=>q,fun _ _ _ q=>q,fun _ ps q=>⟨#[],by rw[q];simp⟩⟩
theorem Un.refl:Un fs ex H H h h:=Un.kept fun _ _ q=>q
theorem Un.laid(k:∀b u,h.get? b=some u→h'.get? b=some u)(hp:h.objs.size≤a)(hn:H a=none):Un fs ex H (upd H a o) h h' where
 keep:=fun b u q _ _ _=>k b u q
 slot:=fun b u q _ _ _=>⟨u.slots,k b u q⟩
 free:=fun b u q n _=>by rw[av (Nat.ne_of_lt (Nat.lt_of_lt_of_le (Heap.lt_size q) hp))];exact n
 there:=fun b u q _=>⟨u,k b u q⟩
 tups:=fun b xs q=>by rw[av (bN q hn)];exact q
 frzs:=fun b u xs q=>by rw[av (bN q hn)];exact q
 tbls:=fun b ps q=>⟨#[],by rw[av (bN q hn),q];simp⟩
theorem Un.write(mu:HX (H x))(he:e=x∨H e=some (.own x))(k:∀b u,b≠e→h.get? b=some u→h'.get? b=some u)(z6:∃u,h'.get? e=some u):Un fs ex H (upd H x o) h h':=by
 have hx:∀b,H b=none→b≠x:=fun b n z=>by subst z;rw[n] at mu;exact mu
 have hb:∀b,H b=none→b≠e:=fun b n z=>by
  subst z
  rcases he with r | r
  ·exact hx b n r
  ·rw[n] at r;cases r
 have hm:∀b u,H b=some u→¬HX (some u)→b≠x:=fun b u q nm z=>by subst z;rw[q] at mu;exact nm mu
 refine⟨fun b u q n _ _=>k b u (hb b n) q,fun b u q n _ _=>⟨u.slots,k b u (hb b n) q⟩,fun b u q n _=>by rw[av (hx b n)];exact n,fun b u q _=>?_,
  fun b xs q=>by rw[av (hm b _ q fun z=>z)];exact q,fun b u xs q=>by rw[av (hm b _ q fun z=>z)];exact q,fun b ps q=>⟨#[],by rw[av (hm b _ q fun z=>z),q];simp⟩⟩
 by_cases FR:b=e
 ·subst FR;exact z6
 ·exact⟨u,k b u FR q⟩
theorem Un.mono(u:Un fs ex H H1 h h1)(hs:∀b∈fs,b∈KJ)(hx:∀b∈ex,b∈vX):Un KJ vX H H1 h h1:=
 ⟨fun b ob q n hb he=>u.keep b ob q n (fun z=>hb (hs b z)) fun z=>he (hx b z),fun _ _ q n _ he=>u.any q n fun z=>he (hx _ z),fun b ob q n he=>u.free b ob q n fun z=>he (hx b z),fun b ob q he=>u.there b ob q fun z=>he (hx b z),u.tups,u.frzs,u.tbls⟩
end
def Kp(h:Heap)(H:Hp):List Addr:=(List.range h.objs.size).filter fun a=>(H a).isSome
def rX(h:Heap)(H:Hp):Heap:=PySem.W.hideAll h (Kp h H)
theorem yY(h:Heap)(H:Hp):(rX h H).objs.size=h.objs.size:=PySem.W.hideAll_size _ _
theorem AW{h:Heap}{H:Hp}{b:Addr}{o:Obj}(e:h.get? b=some o)(n:H b=none):(rX h H).get? b=some o:=
 PySem.W.hideAll_get _ e fun hm=>by
  have q:(H b).isSome=true:=(List.mem_filter.mp hm).2
  rw[n] at q;simp at q
theorem DX{h:Heap}{H:Hp}{b:Addr}{o:Obj}(e:(rX h H).get? b=some o):h.get? b=some o∧H b=none:=by
 have e':h.get? b=some o:=PySem.W.of_hideAll (Kp h H) e
 refine⟨e',?_⟩
 cases q:H b with
 |none=>rfl
 |some x=>
  have hm:b∈Kp h H:=List.mem_filter.mpr ⟨List.mem_range.mpr (Heap.lt_size e'),by simp[q]⟩
  have z:(rX h H).get? b=none:=PySem.W.hideAll_none (Kp h H) hm
  rw[z] at e;cases e
def C6(g h:Heap)(L:Addr):List (Addr×Obj):=(List.range h.objs.size).filterMap fun a=>if a=L∨(g.get? a).isSome=true then none else(h.get? a).map fun o=>(a,o)
def rest(g h:Heap)(L d:Addr):List (Addr×Obj):=(C6 g h L).filter fun p=>decide (p.1≠d)
structure Mod (K:W.Frag) (mg:Str→Option Value) (base:Heap):Prop where
 kin:K.In base
 glob:base.Ns mainGlobals mg
 blt:∃mb,base.Ns builtinsNs mb∧∀x:Str,x≠"__name__"→mb x=bootBuiltins x
 nolimit:base.NoLimit
structure Cx where
 prog:Program
 w:World
 K:W.Frag
 mg:Str→Option Value
 base:Heap
 A:Around
 N:List Str
 s₀:Shared
 H₀:Hp
 env:Env
 outer:List Env
 stack:List Env
 ex:List Addr
 fn:Str→Bool
 calm:Bool
 pn:List (Addr×Obj)
 xe:Value→Shared→Prop
def mN(l:List Env):List Addr:=l.filterMap (·.frame)
abbrev Cx.fs(X:Cx):List Addr:=mN X.outer
def KD(sc:Scope)(x:Str):Prop:=sc.names.lookup x=some .local∨sc.names.lookup x=some .cell∨sc.names.lookup x=some .free
def Loc(sc:Scope)(x:Str):Prop:=sc.names.lookup x=some .local∨sc.names.lookup x=some .cell
def Look(env:Env)(h:Heap)(m:Str→Option Value)(x:Str)(u:Value):Prop:=
 (env.kindOf x=some .local∧m x=some u)∨((env.kindOf x=some .cell∨env.kindOf x=some .free)∧∃c,env.cells.lookup x=some c∧h.IsCell c (some u))
structure Cx.Ok (X:Cx):Prop where
 mod:Mod X.K X.mg X.base
 kind:X.env.scope.kind= .function
 glob:X.env.globals=mainGlobals
 blt:X.env.builtins=builtinsNs
 above:X.s₀.heap.objs.size≤X.env.locals
 inj:∀x y c,X.env.cells.lookup x=some c→X.env.cells.lookup y=some c→x=y
 has:∀x,(X.env.kindOf x=some .cell∨X.env.kindOf x=some .free)→∃c,X.env.cells.lookup x=some c
 cab:∀x c,X.fn x=true→X.env.cells.lookup x=some c→X.s₀.heap.objs.size≤c
 hd:X.calm=true→X.A.handled=none
 frames:X.A.frames=some X.stack
 stk:X.stack=X.outer∨(X.stack=X.env::X.outer∧X.env.frame=some X.env.locals)
 exf:∀b∈X.ex,b≠X.env.locals∧∀x c,X.env.cells.lookup x=some c→c≠b
 bs:∀b o,X.base.get? b=some o→X.s₀.heap.get? b=some o∧X.H₀ b=none
 bsz:X.base.objs.size≤X.s₀.heap.objs.size
 noex:∀b o,X.base.get? b=some o→b∉X.ex
 exfs:∀b∈X.ex,b∉X.fs
 funs:X.s₀.heap.FunFrames X.base X.outer
 frf:∀b∈X.fs,X.H₀ b=none
structure Inv (X:Cx) (pins:List (Addr×Obj)) (σ:List (Option V)) (H:Hp) (s:Shared):Prop where
 ok:X.Ok
 os:s.os=X.s₀.os
 bare:AllBare s.gens
 base:Un X.fs X.ex X.H₀ H X.s₀.heap s.heap
 loc:∃m,s.heap.Ns X.env.locals m∧∀(i:Nat) (x:Str) (v:V),X.N[i]? =some x→σ[i]? =some (some v)→KD X.env.scope x→∃u,RelV v u∧Look X.env s.heap m x u
 cell:∀x c,X.env.cells.lookup x=some c→∃v,s.heap.IsCell c v
 free:H X.env.locals=none
 freeC:∀x c,X.env.cells.lookup x=some c→H c=none
 pin:∀p∈X.pn++pins,s.heap.get? p.1=some p.2∧H p.1=none∧p.1≠X.env.locals∧p.1∉X.fs∧∀v,p.2.data≠ .cell v
 hok:HOk X.prog X.w H s.heap
 len:σ.length=X.N.length
section
variable{X:Cx}{pins:List (Addr×Obj)}{σ:List (Option V)}{H H':Hp}{s:Shared}{h':Heap}
theorem Cx.Ok.nofr(ok:X.Ok){b:Addr}{o:Obj}(e:X.base.get? b=some o):b∉X.fs:=fun hb=>by
 have:=(ok.funs.mem hb).1
 rw[e] at this;cases this
theorem Inv.bs(I:Inv X pins σ H s):∀b o,X.base.get? b=some o→s.heap.get? b=some o∧H b=none:=fun b o e=>
 ⟨I.base.keep b o (I.ok.bs b o e).1 (I.ok.bs b o e).2 (I.ok.nofr e) (I.ok.noex b o e),I.base.free b o (I.ok.bs b o e).1 (I.ok.bs b o e).2 (I.ok.noex b o e)⟩
theorem Inv.bk(I:Inv X pins σ H s):∀b o,X.base.get? b=some o→s.heap.get? b=some o:=fun b o e=>(I.bs b o e).1
theorem Inv.mod(I:Inv X pins σ H s):Mod X.K X.mg X.base:=I.ok.mod
theorem Inv.kIn(I:Inv X pins σ H s):X.K.In s.heap:=I.ok.mod.kin.keeps I.bk
theorem Inv.nolimit(I:Inv X pins σ H s):s.heap.NoLimit:=I.ok.mod.nolimit.keeps I.bk
theorem Inv.lt(I:Inv X pins σ H s):X.env.locals<s.heap.objs.size:=let ⟨_,hn,_⟩:=I.loc;hn.lt
theorem Inv.sz(I:Inv X pins σ H s):X.s₀.heap.objs.size≤s.heap.objs.size:=Nat.le_trans I.ok.above (Nat.le_of_lt I.lt)
theorem Inv.nofs(I:Inv X pins σ H s){a:Addr}(h:s.heap.objs.size≤a):a∉X.fs:=fun hb=>by
 obtain⟨_,o,ho,_⟩:=I.ok.funs.mem hb
 exact absurd (Nat.lt_of_lt_of_le (Heap.lt_size ho) (Nat.le_trans I.sz h)) (Nat.lt_irrefl _)
theorem Inv.cne(I:Inv X pins σ H s):∀x c,X.env.cells.lookup x=some c→c≠X.env.locals:=fun x c e z=>by
 obtain⟨v,o,ho,hd⟩:=I.cell x c e
 obtain⟨m,⟨o',es,ep,qj,pk,_⟩,_⟩:=I.loc
 rw[z,qj] at ho;cases ho;rw[pk] at hd;cases hd
theorem Inv.funs(I:Inv X pins σ H s):s.heap.FunFrames X.base X.outer:=by
 have all:∀(l:List Env),(∀b∈mN l,b∈X.fs)→X.s₀.heap.FunFrames X.base l→s.heap.FunFrames X.base l:=by
  intro l
  induction l with
  |nil=>intro _ _;trivial
  |cons env r ih=>
   intro hs hl
   obtain⟨hk,⟨L,o,hf,hn,ho,hd⟩,hr⟩:=hl
   have hL:L∈X.fs:=hs L (by unfold mN;rw[List.filterMap_cons,hf];exact List.mem_cons_self)
   obtain⟨sl,e⟩:=I.base.slot L o ho (I.ok.frf L hL) hL fun z=>I.ok.exfs L z hL
   exact⟨hk,⟨L,_,hf,hn,e,hd⟩,ih (fun b hb=>hs b (by unfold mN;rw[List.filterMap_cons,hf];exact List.mem_cons_of_mem _ hb)) hr⟩
 exact all X.outer (fun _ hb=>hb) I.ok.funs
theorem Inv.stack(I:Inv X pins σ H s):s.heap.FunFrames X.base X.stack:=by
 rcases I.ok.stk with e | ⟨e,hf⟩
 ·rw[e];exact I.funs
 ·rw[e]
  obtain⟨m,hn,_⟩:=I.loc
  refine .cons (by rw[I.ok.kind];decide) hf hn ?_ I.funs
  exact Heap.get?_none_of_le (Nat.le_trans I.ok.bsz I.ok.above)
theorem Inv.stkSub(I:Inv X pins σ H s):∀b∈mN X.stack,b∈X.env.locals::X.fs:=fun b hb=>by
 rcases I.ok.stk with e | ⟨e,hf⟩
 ·rw[e] at hb;exact List.mem_cons_of_mem _ hb
 ·rw[e] at hb
  unfold mN at hb
  rw[List.filterMap_cons,hf] at hb
  exact hb
theorem Inv.stkFree(I:Inv X pins σ H s):∀b∈mN X.stack,H b=none:=fun b hb=>by
 rcases List.mem_cons.mp (I.stkSub b hb) with e | hb
 ·rw[e];exact I.free
 ·obtain⟨_,o,ho,_⟩:=I.ok.funs.mem hb
  exact I.base.free b o ho (I.ok.frf b hb) fun z=>I.ok.exfs b z hb
theorem Inv.step{g':Array GenState}{t':Nat}{d':Drawn}{ch:List Addr}(I:Inv X pins σ H s)
 (C0:∀b∈ch,(b∈X.ex∨X.s₀.heap.objs.size≤b)∧b≠X.env.locals∧(∀x c,X.env.cells.lookup x=some c→c≠b)∧∀p∈X.pn++pins,p.1≠b)
 (keep:∀b o,b≠X.env.locals→b∉X.fs→b∉ch→s.heap.get? b=some o→H b=none→h'.get? b=some o)
 (slot:∀b o,b≠X.env.locals→b∈X.fs→b∉ch→s.heap.get? b=some o→H b=none→∃sl,h'.get? b=some {o with slots:=sl})(free:∀b o,b∉ch→s.heap.get? b=some o→H b=none→H' b=none)
 (there:∀b o,b∉ch→s.heap.get? b=some o→∃o',h'.get? b=some o')
 (tups:∀b xs,H b=some (.tup xs)→H' b=some (.tup xs))(frzs:∀b o u,H b=some (.frz o u)→H' b=some (.frz o u))(tbls:∀b ps,H b=some (.tbl ps)→∃more,H' b=some (.tbl (ps++more)))
 (ns:∀m,s.heap.Ns X.env.locals m→h'.Ns X.env.locals m)(hok:HOk X.prog X.w H' h')(hg:AllBare g'):
 Inv X pins σ H' {s with heap:=h',gens:=g',drawn:=d',toks:=t'}:=by
 have Nq:∀b o,X.s₀.heap.get? b=some o→b≠X.env.locals:=fun b o e=>Nat.ne_of_lt (Nat.lt_of_lt_of_le (Heap.lt_size e) I.ok.above)
 have Kk:∀b o,X.s₀.heap.get? b=some o→b∉X.ex→b∉ch:=fun b o e hx hb=>by
  rcases(C0 b hb).1 with z | z
  ·exact hx z
  ·exact absurd (Nat.lt_of_lt_of_le (Heap.lt_size e) z) (Nat.lt_irrefl _)
 have cellK:∀x c,X.env.cells.lookup x=some c→∀v,s.heap.IsCell c v→h'.IsCell c v:=fun x c e v ⟨o,ho,hd⟩=>by
  have Jj:c∉ch:=fun z=>(C0 c z).2.2.1 x c e rfl
  by_cases hc:c∈X.fs
  ·obtain⟨sl,q⟩:=slot c o (I.cne x c e) hc Jj ho (I.freeC x c e)
   exact⟨_,q,hd⟩
  ·exact⟨o,keep c o (I.cne x c e) hc Jj ho (I.freeC x c e),hd⟩
 refine⟨I.ok,I.os,hg,⟨fun b o e n hb hx=>?_,fun b o e n hb hx=>?_,fun b o e n hx=>?_,fun b o e hx=>?_,fun b xs e=>tups b xs (I.base.tups b xs e),fun b o xs e=>frzs b o xs (I.base.frzs b o xs e),fun b ps e=>?_⟩,?_,fun x c e=>?_,?_,fun x c e=>?_,fun p hp=>?_,hok,I.len⟩
 ·exact keep b o (Nq b o e) hb (Kk b o e hx) (I.base.keep b o e n hb hx) (I.base.free b o e n hx)
 ·obtain⟨sl,e1⟩:=I.base.slot b o e n hb hx
  obtain⟨Hn,e2⟩:=slot b _ (Nq b o e) hb (Kk b o e hx) e1 (I.base.free b o e n hx)
  exact⟨Hn,e2⟩
 ·obtain⟨o',e1⟩:=I.base.there b o e hx
  exact free b o' (Kk b o e hx) e1 (I.base.free b o e n hx)
 ·obtain⟨o',e1⟩:=I.base.there b o e hx
  exact there b o' (Kk b o e hx) e1
 ·obtain⟨m1,e1⟩:=I.base.tbls b ps e
  obtain⟨m2,e2⟩:=tbls b _ e1
  exact⟨m1++m2,by rw[e2,Array.append_assoc]⟩
 ·obtain⟨m,hn,hl⟩:=I.loc
  refine⟨m,ns m hn,fun i x v e1 e2 e3=>?_⟩
  obtain⟨u,r,l⟩:=hl i x v e1 e2 e3
  refine⟨u,r,?_⟩
  rcases l with l | ⟨k,c,e,z⟩
  ·exact .inl l
  ·exact .inr ⟨k,c,e,cellK x c e _ z⟩
 ·obtain⟨v,z⟩:=I.cell x c e
  exact⟨v,cellK x c e v z⟩
 ·obtain⟨m,⟨o,_,_,ho,_⟩,_⟩:=I.loc
  exact free _ o (fun z=>(C0 _ z).2.1 rfl) ho I.free
 ·obtain⟨v,o,ho,hd⟩:=I.cell x c e
  exact free c o (fun z=>(C0 c z).2.2.1 x c e rfl) ho (I.freeC x c e)
 ·obtain⟨e,n,ne,nf,d⟩:=I.pin p hp
  have Jj:p.1∉ch:=fun z=>(C0 p.1 z).2.2.2 p hp rfl
  exact⟨keep p.1 p.2 ne nf Jj e n,free p.1 p.2 Jj e n,ne,nf,d⟩
theorem Inv.un{t':Nat}(I:Inv X pins σ H s)(u:Un X.fs [] H H' s.heap h')(hok:HOk X.prog X.w H' h'):Inv X pins σ H' {s with heap:=h',toks:=t'}:=by
 obtain⟨m,⟨o,es,ep,ho,r⟩,_⟩:=id I.loc
 obtain⟨sl,hL⟩:=u.any ho I.free (by simp)
 exact I.step (g':=s.gens) (d':=s.drawn) (ch:=[]) (fun _ z=>nomatch z) (fun b o _ hb _ e n=>u.keep b o e n hb (by simp)) (fun b o _ hb _ e n=>u.slot b o e n hb (by simp)) (fun b o _ e n=>u.free b o e n (by simp)) (fun b o _ e=>u.there b o e (by simp)) u.tups u.frzs u.tbls (fun m' hm=>by
  obtain⟨o',HH,Dk,qj,r'⟩:=hm
  rw[ho] at qj;cases qj
  exact⟨_,HH,Dk,hL,r'⟩) hok I.bare
theorem Inv.call{g':Array GenState}{t':Nat}{d':Drawn}{ch:List Addr}(I:Inv X pins σ H s)(u:Un (mN X.stack) ch H H' s.heap h')(hok:HOk X.prog X.w H' h')(hg:AllBare g')
 (C0:∀b∈ch,(b∈X.ex∨X.s₀.heap.objs.size≤b)∧b≠X.env.locals∧(∀x c,X.env.cells.lookup x=some c→c≠b)∧∀p∈X.pn++pins,p.1≠b):
 Inv X pins σ H' {s with heap:=h',gens:=g',drawn:=d',toks:=t'}:=by
 obtain⟨m,⟨o,es,ep,ho,r⟩,_⟩:=id I.loc
 obtain⟨sl,hL⟩:=u.any ho I.free fun z=>(C0 _ z).2.1 rfl
 exact I.step (ch:=ch) C0 (fun b o hL hb hc e n=>u.keep b o e n (fun z=>(List.mem_cons.mp (I.stkSub b z)).elim hL hb) hc) (fun b o _ _ hc e n=>u.any e n hc) (fun b o hc e n=>u.free b o e n hc) (fun b o hc e=>u.there b o e hc) u.tups u.frzs u.tbls (fun m' hm=>by
  obtain⟨o',HH,Dk,qj,r'⟩:=hm
  rw[ho] at qj;cases qj
  exact⟨_,HH,Dk,hL,r'⟩) hok hg
theorem Inv.turned{t':Nat}{it:Addr}(I:Inv X pins σ H s)(k:∀b o,b≠it→s.heap.get? b=some o→h'.get? b=some o)(hn:H it=none)(hL:it≠X.env.locals)
 (h1:it∈X.ex∨X.s₀.heap.objs.size≤it)(h2:∀x c,X.env.cells.lookup x=some c→c≠it)(h3:∀p∈X.pn++pins,p.1≠it):Inv X pins σ H {s with heap:=h',toks:=t'}:=by
 have Nr:∀b u,H b=some u→b≠it:=fun b u e z=>by rw[z,hn] at e;cases e
 refine I.step (g':=s.gens) (d':=s.drawn) (ch:=[it]) (fun b hb=>?_) (fun b o _ _ hc e _=>k b o (fun z=>hc (by simp[z])) e) (fun b o _ _ hc e _=>⟨o.slots,k b o (fun z=>hc (by simp[z])) e⟩) (fun _ _ _ _ n=>n)
  (fun b o hc e=>⟨o,k b o (fun z=>hc (by simp[z])) e⟩) (fun _ _ e=>e) (fun _ _ _ e=>e) (fun b ps e=>⟨#[],by rw[e];simp⟩) (fun m hm=>?_) (fun b u e=>?_) I.bare
 ·have e:b=it:=by simpa using hb
  subst e
  exact⟨h1,hL,h2,h3⟩
 ·obtain⟨o,es,ep,ho,r⟩:=hm
  exact⟨o,es,ep,k _ o (Ne.symm hL) ho,r⟩
 ·refine(I.hok b u e).stay (fun c v hc q=>k c v ?_ q) (fun _ q=>q) fun _ _ q=>q
  rcases hc with z | z
  ·rw[z];exact Nr b u e
  ·exact Nr c _ z
theorem Inv.tok(I:Inv X pins σ H s)(t:Nat):Inv X pins σ H {s with toks:=t}:=I.un (h':=s.heap) (t':=t) Un.refl I.hok
theorem Inv.kept{t':Nat}(I:Inv X pins σ H s)(k:∀b u,s.heap.get? b=some u→h'.get? b=some u):Inv X pins σ H {s with heap:=h',toks:=t'}:=I.un (Un.kept k) (I.hok.kept k)
theorem Inv.laid{a:Addr}{o:HO}{t':Nat}(I:Inv X pins σ H s)(k:∀b u,s.heap.get? b=some u→h'.get? b=some u)(hp:s.heap.objs.size≤a)(new:ObjOk X.prog X.w (upd H a o) h' a o):
 Inv X pins σ (upd H a o) {s with heap:=h',toks:=t'}:=I.un (Un.laid k hp (I.hok.fresh hp)) (I.hok.laid k hp new)
theorem Inv.write{x e:Addr}{o:HO}{t':Nat}(I:Inv X pins σ H s)(mu:HX (H x))(he:e=x∨H e=some (.own x))(k:∀b u,b≠e→s.heap.get? b=some u→h'.get? b=some u)(z6:∃u,h'.get? e=some u)
 (new:ObjOk X.prog X.w (upd H x o) h' x o):Inv X pins σ (upd H x o) {s with heap:=h',toks:=t'}:=I.un (Un.write mu he k z6) (I.hok.write mu he k z6 new)
theorem Inv.pins_of{Ff:List (Addr×Obj)}(I:Inv X pins σ H s)(h:∀p∈Ff,s.heap.get? p.1=some p.2∧H p.1=none∧p.1≠X.env.locals∧p.1∉X.fs∧∀v,p.2.data≠ .cell v):Inv X Ff σ H s:=
 ⟨I.ok,I.os,I.bare,I.base,I.loc,I.cell,I.free,I.freeC,fun p hp=>(List.mem_append.mp hp).elim (fun z=>I.pin p (List.mem_append_left _ z)) (h p),I.hok,I.len⟩
theorem uG{N:List Str}(hN:N.Nodup){i j:Nat}{x:Str}(a:N[i]? =some x)(b:N[j]? =some x):i=j:=by
 obtain⟨h1,e1⟩:=List.getElem?_eq_some_iff.mp a
 obtain⟨h2,e2⟩:=List.getElem?_eq_some_iff.mp b
 exact(List.getElem_inj hN).mp (e1.trans e2.symm)
theorem rj{M:Model}{A:Around}{E:Value→Shared→Prop}{i:Nat}{x:Str}{v:V}{u:Value}{Q:Unit→Shared→Prop}(I:Inv X pins σ H s)(hN:X.N.Nodup)(hi:X.N[i]? =some x)(hx:Loc X.env.scope x)(r:RelV v u)
 (h:∀s',Inv X pins (σ.set i (some v)) H s'→(∃a,Heap.SameBut a s.heap s'.heap∧(a=X.env.locals∨X.env.cells.lookup x=some a))→Q () s')(hf:X.fn x=true∨X.env.scope.names.lookup x=some .local:=by first | exact .inl rfl | exact .inr rfl | assumption):wpAny M A (storeName X.env x u) Q E s:=by
 obtain⟨m,hn,hl⟩:=id I.loc
 have K3:(X.env.scope.kind== .class||(X.env.scope.kind== .module&&X.env.locals !=X.env.globals))=false:=by rw[I.ok.kind];rfl
 have MY:i<σ.length:=by rw[I.len];exact(List.getElem?_eq_some_iff.mp hi).1
 have cne:=I.cne
 have tracked:∀{a:Addr}{h':Heap},(∃o,s.heap.get? a=some o∧H a=none)→Heap.SameBut a s.heap h'→HOk X.prog X.w H h':=fun {a h'} ha hs b ob e=>by
  obtain⟨_,_,E4⟩:=ha
  refine(I.hok b ob e).stay (fun c w' hc q=>(hs.2 c ?_).trans q) (fun _ q=>q) fun _ _ q=>q
  rintro rfl
  rcases hc with rfl | hc
  ·rw[E4] at e;cases e
  ·rw[E4] at hc;cases hc
 rcases hx with hk | hk
 ·refine wpAny_storeName_local hk hn (fun h' F9 hs=>?_) K3
  obtain⟨oL,_,_,C2,_⟩:=id hn
  refine h _ ⟨I.ok,I.os,I.bare,⟨fun b o e n hb hx=>?_,fun b o e n hb hx=>?_,I.base.free,fun b o e hx=>?_,I.base.tups,I.base.frzs,I.base.tbls⟩,⟨_,F9,fun j y v' e1 e2 e3=>?_⟩,fun y c e=>?_,I.free,I.freeC,fun p hp=>?_,tracked ⟨oL,C2,I.free⟩ hs,by simpa using I.len⟩ ⟨_,hs, .inl rfl⟩
  ·exact(hs.2 b (Nat.ne_of_lt (Nat.lt_of_lt_of_le (Heap.lt_size e) I.ok.above))).trans (I.base.keep b o e n hb hx)
  ·obtain⟨sl,e1⟩:=I.base.slot b o e n hb hx
   exact⟨sl,(hs.2 b (Nat.ne_of_lt (Nat.lt_of_lt_of_le (Heap.lt_size e) I.ok.above))).trans e1⟩
  ·obtain⟨o',e1⟩:=I.base.there b o e hx
   exact⟨o',(hs.2 b (Nat.ne_of_lt (Nat.lt_of_lt_of_le (Heap.lt_size e) I.ok.above))).trans e1⟩
  ·by_cases hj:j=i
   ·subst hj
    rw[hi] at e1;cases e1
    rw[List.getElem?_set_self MY] at e2
    cases e2
    exact⟨u,r, .inl ⟨hk,by simp⟩⟩
   ·rw[List.getElem?_set_ne (Ne.symm hj)] at e2
    obtain⟨u',r',q⟩:=hl j y v' e1 e2 e3
    refine⟨u',r',?_⟩
    rcases q with⟨k,e⟩ | ⟨k,c,e,z⟩
    ·refine .inl ⟨k,?_⟩
     have:y≠x:=fun e=>hj (uG hN e1 (e▸hi))
     simp[this,e]
    ·exact .inr ⟨k,c,e,z.sameBut hs (cne y c e)⟩
  ·obtain⟨w',z⟩:=I.cell y c e
   exact⟨w',z.sameBut hs (cne y c e)⟩
  ·obtain⟨e,n,ne,nf,d⟩:=I.pin p hp
   exact⟨(hs.2 p.1 ne).trans e,n,ne,nf,d⟩
 ·have K9:X.fn x=true:=by
   rcases hf with z | z
   ·exact z
   ·rw[z] at hk;cases hk
  obtain⟨c,hc⟩:=I.ok.has x (.inl hk)
  obtain⟨w',z⟩:=I.cell x c hc
  refine wpAny_storeName_cell I.ok.kind hk hc z (fun h' EY hs=>?_)
  obtain⟨oc,Kf,Lq⟩:=id z
  refine h {s with heap:=h'} ⟨I.ok,I.os,I.bare,⟨fun b o e n hb hx=>?_,fun b o e n hb hx=>?_,I.base.free,fun b o e hx=>?_,I.base.tups,I.base.frzs,I.base.tbls⟩,⟨m,hn.sameBut hs (Ne.symm (cne x c hc)),fun j y v' e1 e2 e3=>?_⟩,fun y c' e=>?_,I.free,I.freeC,fun p hp=>?_,tracked ⟨oc,Kf,I.freeC x c hc⟩ hs,by simpa using I.len⟩ ⟨c,hs, .inr hc⟩
  ·exact(hs.2 b (Nat.ne_of_lt (Nat.lt_of_lt_of_le (Heap.lt_size e) (I.ok.cab x c K9 hc)))).trans (I.base.keep b o e n hb hx)
  ·obtain⟨sl,e1⟩:=I.base.slot b o e n hb hx
   exact⟨sl,(hs.2 b (Nat.ne_of_lt (Nat.lt_of_lt_of_le (Heap.lt_size e) (I.ok.cab x c K9 hc)))).trans e1⟩
  ·obtain⟨o',e1⟩:=I.base.there b o e hx
   exact⟨o',(hs.2 b (Nat.ne_of_lt (Nat.lt_of_lt_of_le (Heap.lt_size e) (I.ok.cab x c K9 hc)))).trans e1⟩
  ·by_cases hj:j=i
   ·subst hj
    rw[hi] at e1;cases e1
    rw[List.getElem?_set_self MY] at e2
    cases e2
    exact⟨u,r, .inr ⟨.inl hk,c,hc,EY⟩⟩
   ·rw[List.getElem?_set_ne (Ne.symm hj)] at e2
    obtain⟨u',r',q⟩:=hl j y v' e1 e2 e3
    refine⟨u',r',?_⟩
    rcases q with q | ⟨k,c',e,z'⟩
    ·exact .inl q
    ·refine .inr ⟨k,c',e,z'.sameBut hs ?_⟩
     rintro rfl
     exact hj (uG hN e1 (I.ok.inj _ _ _ e hc▸hi))
  ·by_cases J9:c'=c
   ·subst J9;exact⟨_,EY⟩
   ·obtain⟨w2,z2⟩:=I.cell y c' e
    exact⟨w2,z2.sameBut hs J9⟩
  ·obtain⟨e,n,ne,nf,d⟩:=I.pin p hp
   refine⟨(hs.2 p.1 ?_).trans e,n,ne,nf,d⟩
   intro q
   rw[q,Kf] at e
   have q':oc=p.2:=Option.some.inj e
   exact d w' (by rw[←q'];exact Lq)
theorem vm{M:Model}{A:Around}{E:Value→Shared→Prop}{i:Nat}{x:Str}{v:V}{u:Value}{Q:Unit→Shared→Prop}(I:Inv X pins σ H s)(hN:X.N.Nodup)(hi:X.N[i]? =some x)(hx:Loc X.env.scope x)(r:RelV v u)
 (h:∀s',Inv X pins (σ.set i (some v)) H s'→Q () s')(hf:X.fn x=true∨X.env.scope.names.lookup x=some .local:=by first | exact .inl rfl | exact .inr rfl | assumption):wpAny M A (storeName X.env x u) Q E s:=
 rj I hN hi hx r (fun s' I' _=>h s' I') hf
theorem Inv.call'{s':Shared}{ch:List Addr}(I:Inv X pins σ H s)(ho:s'.os=s.os)(u:Un (mN X.stack) ch H H' s.heap s'.heap)(hok:HOk X.prog X.w H' s'.heap)(hg:AllBare s'.gens)
 (C0:∀b∈ch,(b∈X.ex∨X.s₀.heap.objs.size≤b)∧b≠X.env.locals∧(∀x c,X.env.cells.lookup x=some c→c≠b)∧∀p∈X.pn++pins,p.1≠b):Inv X pins σ H' s':=by
 obtain⟨h',g',d',t',o'⟩:=s'
 have e:o'=s.os:=ho
 subst e
 exact I.call (g':=g') (t':=t') (d':=d') u hok hg C0
end
abbrev XK:=Value→Option Addr→Hp→Prop
abbrev St:=List (Option V)
abbrev VK:=V→Hp→Prop
abbrev TE:=St→Hp→VK→Prop
abbrev TT:=St→Hp→(Bool→Hp→Prop)→Prop
abbrev TA:=St→Hp→(List V→Hp→Prop)→Prop
structure Ends where
 nx:St→Hp→Prop
 rt:VK
 bk:St→Hp→Prop:=fun _ _=>False
 ct:St→Hp→Prop:=fun _ _=>False
abbrev TS:=Ends→St→Hp→Prop
def EP(X:Cx)(pins:List (Addr×Obj))(σ:St)(Q:VK)(u:Value)(s':Shared):Prop:=∃v H',Inv X pins σ H' s'∧RelV v u∧Q v H'
def TP(X:Cx)(pins:List (Addr×Obj))(σ:St)(Q:Bool→Hp→Prop)(b:Bool)(s':Shared):Prop:=∃H',Inv X pins σ H' s'∧Q b H'
def AP(X:Cx)(pins:List (Addr×Obj))(σ:St)(Q:List V→Hp→Prop)(us:List Value)(s':Shared):Prop:=∃vs H',Inv X pins σ H' s'∧Vals vs us∧Q vs H'
def SP(X:Cx)(pins:List (Addr×Obj))(D:Ends)(f:Flow)(s':Shared):Prop:=
 match f with
 | .next=>∃σ' H',Inv X pins σ' H' s'∧D.nx σ' H'
 | .brk=>∃σ' H',Inv X pins σ' H' s'∧D.bk σ' H'
 | .cont=>∃σ' H',Inv X pins σ' H' s'∧D.ct σ' H'
 | .ret u=>∃v σ' H',Inv X pins σ' H' s'∧RelV v u∧D.rt v H'
def PE(X:Cx)(e:Expr)(t:TE):Prop:=
 ∀(pins:List (Addr×Obj)) (s:Shared) (σ:St) (H:Hp) (Q:VK),Inv X pins σ H s→t σ H Q→wpAny (model X.prog X.w) X.A (eval e X.env) (EP X pins σ Q) X.xe s
def PT(X:Cx)(e:Expr)(t:TT):Prop:=
 ∀(pins:List (Addr×Obj)) (s:Shared) (σ:St) (H:Hp) (Q:Bool→Hp→Prop),Inv X pins σ H s→t σ H Q→wpAny (model X.prog X.w) X.A (isTrue e X.env (eval e X.env)) (TP X pins σ Q) X.xe s
def PW(X:Cx)(e:Expr)(t:TT):Prop:=
 ∀(whole:Sem Value) (pins:List (Addr×Obj)) (s:Shared) (σ:St) (H:Hp) (Q:Bool→Hp→Prop),Inv X pins σ H s→t σ H Q→wpAny (model X.prog X.w) X.A (isTrue e X.env whole) (TP X pins σ Q) X.xe s
theorem PW.pt{X:Cx}{e:Expr}{t:TT}(h:PW X e t):PT X e t:=h _
def PA(X:Cx)(es:List Expr)(t:TA):Prop:=
 ∀(pos:Pos) (pins:List (Addr×Obj)) (s:Shared) (σ:St) (H:Hp) (Q:List V→Hp→Prop),Inv X pins σ H s→t σ H Q→wpAny (model X.prog X.w) X.A (spliced (backTo pos (starEach es X.env))) (AP X pins σ Q) X.xe s
def PS(X:Cx)(st:Stmt)(t:TS):Prop:=
 ∀(pins:List (Addr×Obj)) (s:Shared) (σ:St) (H:Hp) (D:Ends),Inv X pins σ H s→t D σ H→wpAny (model X.prog X.w) X.A (exec st X.env) (SP X pins D) X.xe s
def PSs(X:Cx)(st:List Stmt)(t:TS):Prop:=
 ∀(pins:List (Addr×Obj)) (s:Shared) (σ:St) (H:Hp) (D:Ends),Inv X pins σ H s→t D σ H→wpAny (model X.prog X.w) X.A (execs st X.env) (SP X pins D) X.xe s
theorem bG{α:Type}{t:Sem α}{Q Q':α→Shared→Prop}{M:Model}{A:Around}{E:Value→Shared→Prop}{s:Shared}(h:wpAny M A t Q E s)(hQ:∀a s,Q a s→Q' a s):wpAny M A t Q' E s:=wpAny_mono h hQ fun _ _ x=>x
section
variable{X:Cx}
theorem bin{a b:Expr}{ta tb:TE}(ha:PE X a ta)(hb:PE X b tb){pins:List (Addr×Obj)}{s:Shared}{σ:St}{H:Hp}{R:V→V→Hp→Prop}(I:Inv X pins σ H s)(h:ta σ H fun x H1=>tb σ H1 fun y H2=>R x y H2)
 {α:Type}{Q:α→Shared→Prop}{f:Value→Value→Sem α}
 (hf:∀v u s2 x y H2,Inv X pins σ H2 s2→RelV x v→RelV y u→R x y H2→wpAny (model X.prog X.w) X.A (f v u) Q X.xe s2):
 wpAny (model X.prog X.w) X.A (eval a X.env) (fun v s₁=>wpAny (model X.prog X.w) X.A (eval b X.env) (fun u s₂=>wpAny (model X.prog X.w) X.A (f v u) Q X.xe s₂) X.xe s₁) X.xe s:=by
 refine bG (ha pins s σ H _ I h) fun v s1 ⟨x,H1,I1,r1,q1⟩=>?_
 refine bG (hb pins s1 σ H1 _ I1 q1) fun u s2 ⟨y,H2,I2,r2,q2⟩=>?_
 exact hf v u s2 x y H2 I2 r1 r2 q2
def o4(i:Nat):TE:=fun σ H Q=>∃v,σ[i]? =some (some v)∧Q v H
def tC(v:V):TE:=fun _ H Q=>Q v H
theorem G7{i:Nat}{x:Str}{pos:Pos}(hN:X.N[i]? =some x)(hv:KD X.env.scope x)(hd:(x==("__debug__":Str))=false:=by decide)(xN:(x==("__classdict__":Str))=false:=by decide):PE X (.Name x pos) (o4 i):=by
 intro pins s σ H Q I h
 obtain⟨v,e,h⟩:=h
 obtain⟨m,hn,hl⟩:=I.loc
 obtain⟨u,r,l⟩:=hl i x v hN e hv
 have fin:EP X pins σ Q u s:=⟨v,H,I,r,h⟩
 rcases l with⟨hk,hm⟩ | ⟨hk,c,hc,E0⟩
 ·exact wpAny_Name (wpAny_loadName_local I.ok.kind hk hn hm fin) hd
 ·rcases hk with hk | hk
  ·exact wpAny_Name (wpAny_loadName_cell I.ok.kind hk hc E0 fin) hd
  ·exact wpAny_Name (wpAny_loadName_free I.ok.kind hk hc E0 fin xN) hd
theorem GZ{i j pos}:PE X (.Constant (.int i) j pos) (tC (.int i)):=fun _ _ _ H _ I h=>wpAny_Constant_int ⟨.int i,H,I.tok _,⟨_,rfl⟩,h⟩
theorem Ju{b j pos}:PE X (.Constant (.bool b) j pos) (tC (.bl b)):=fun _ _ _ H _ I h=>Constant_bool ⟨.bl b,H,I,rfl,h⟩
theorem G0{j pos}:PE X (.Constant .none j pos) (tC .non):=fun _ _ _ H _ I h=>Constant_none ⟨.non,H,I,rfl,h⟩
theorem G4{x j pos}:PE X (.Constant (.str x) j pos) (tC (.str x)):=fun _ _ _ H _ I h=>Calls.Constant_str ⟨.str x,H,I.tok _,⟨_,rfl⟩,h⟩
def Gl(X:Cx)(x:Str):Prop:=X.env.kindOf x=some .globalImplicit
theorem ya{E:Value→Shared→Prop}{pins:List (Addr×Obj)}{s:Shared}{σ:St}{H:Hp}{x:Str}{u:Value}{pos:Pos}{Q:Value→Shared→Prop}(I:Inv X pins σ H s)(hg:Gl X x)(hm:X.mg x=some u)(h:Q u s)
 (hd:(x==("__debug__":Str))=false:=by decide):wpAny (model X.prog X.w) X.A (eval (.Name x pos) X.env) Q E s:=
 Calls.Name_function_global I.ok.kind hg (Calls.loadGlobal_global (by rw[I.ok.glob];exact I.mod.glob.keeps I.bk) hm h) hd
theorem je{E:Value→Shared→Prop}{pins:List (Addr×Obj)}{s:Shared}{σ:St}{H:Hp}{x:Str}{u:Value}{pos:Pos}{Q:Value→Shared→Prop}(I:Inv X pins σ H s)(hg:Gl X x)(hm:X.mg x=none)(hv:bootBuiltins x=some u)(h:Q u s)
 (hn:x≠"__name__":=by decide)(hd:(x==("__debug__":Str))=false:=by decide):wpAny (model X.prog X.w) X.A (eval (.Name x pos) X.env) Q E s:=by
 obtain⟨mb,h1,h2⟩:=I.mod.blt
 exact Calls.Name_function_global I.ok.kind hg (Calls.loadGlobal_builtin (by rw[I.ok.glob];exact I.mod.glob.keeps I.bk) hm (by rw[I.ok.blt];exact h1.keeps I.bk) ((h2 x hn).trans hv) h) hd
theorem Ee{x:Str}{v:V}{u:Value}{pos:Pos}(hg:Gl X x)(hm:X.mg x=some u)(r:RelV v u)(hd:(x==("__debug__":Str))=false:=by decide):PE X (.Name x pos) (tC v):=
 fun _ _ _ H _ I h=>ya I hg hm ⟨v,H,I,r,h⟩ hd
theorem Eb{x:Str}{v:V}{u:Value}{pos:Pos}(hg:Gl X x)(hm:X.mg x=none)(hv:bootBuiltins x=some u)(r:RelV v u)(hn:x≠"__name__":=by decide)(hd:(x==("__debug__":Str))=false:=by decide):PE X (.Name x pos) (tC v):=
 fun _ _ _ H _ I h=>je I hg hm hv ⟨v,H,I,r,h⟩ hn hd
variable{a b:Expr}{ta tb:TE}{pos:Pos}
def PC(X:Cx)(op:CmpOp)(a b:Expr)(t:TE):Prop:=
 ∀(pins:List (Addr×Obj)) (s:Shared) (σ:St) (H:Hp) (Q:VK),Inv X pins σ H s→t σ H Q→
  wpAny (model X.prog X.w) X.A (eval a X.env) (fun v s₁=>wpAny (model X.prog X.w) X.A (eval b X.env) (fun u s₂=>wpAny (model X.prog X.w) X.A (compareOp op v u) (EP X pins σ Q) X.xe s₂) X.xe s₁) X.xe s
theorem Br(b:Expr){op:CmpOp}(h:op≠ .In)(h2:op≠ .NotIn):behindInMarks op b=false:=by
 have e1:(op==CmpOp.In)=false:=by cases op<;>first | rfl | exact absurd rfl h
 have e2:(op==CmpOp.NotIn)=false:=by cases op<;>first | rfl | exact absurd rfl h2
 cases b<;>simp[behindInMarks,e1,e2]
theorem GY{op:CmpOp}{t:TE}(h:PC X op a b t)(h1:behindInMarks op b=false:=by first | exact Br _ (by decide) (by decide) | rfl):PE X (.Compare a [op] [b] pos) t:=fun pins s σ H Q I hw=>wpAny_Compare1 (h pins s σ H Q I hw) h1
variable{tA df:TT}{rest:List Expr}
def Po(t u:TT):TT:=fun σ H Q=>t σ H fun c H1=>if c=true then Q true H1 else u σ H1 Q
def Ml(t:TT):TT:=fun σ H Q=>t σ H fun c H1=>Q (!c) H1
theorem He(ha:PT X a tA):PW X (.BoolOp .Or [a] pos) tA:=by
 intro wh pins s σ H Q I h
 refine isTrue_or (bG (ha pins s σ H Q I h) fun c s1 e=>?_)
 cases c with
 |false=>exact isTrue_or_nil e
 |true=>exact e
theorem Jz(ha:PT X a tA)(hb:PW X (.BoolOp .Or (b::rest) pos) df):PW X (.BoolOp .Or (a::b::rest) pos) (Po tA df):=by
 intro wh pins s σ H Q I h
 refine isTrue_or (bG (ha pins s σ H _ I h) fun c s1 ⟨H1,I1,q1⟩=>?_)
 cases c with
 |true=>exact⟨H1,I1,q1⟩
 |false=>exact hb wh pins s1 σ H1 Q I1 q1
theorem Hb(ha:PT X a tA):PT X (.UnaryOp .Not a pos) (Ml tA):=by
 intro pins s σ H Q I h
 exact isTrue_not (ha pins s σ H (fun c H1=>Q (!c) H1) I h)
def JT(ta tb:TE):TE:=fun σ H Q=>ta σ H fun x H1=>∃c,x= .bl c∧if c=true then tb σ H1 Q else Q (.bl false) H1
def JW(ta:TE):TE:=fun σ H Q=>ta σ H fun x H1=>∃c,x= .bl c∧Q (.bl (!c)) H1
theorem G2{op}{t:TE}(h:PE X a t):PE X (.BoolOp op [a] pos) t:=fun pins s σ H Q I hw=>BoolOp_one (h pins s σ H Q I hw)
theorem GX(ha:PE X a ta)(hb:PE X (.BoolOp .And (b::rest) pos) tb):PE X (.BoolOp .And (a::b::rest) pos) (JT ta tb):=by
 intro pins s σ H Q I h
 refine BoolOp_and (bG (ha pins s σ H _ I h) fun v s1 ⟨x,H1,I1,r1,q1⟩=>?_)
 obtain⟨c,rfl,q1⟩:=q1
 cases r1
 refine wpAny_truthy_bool ?_
 cases c with
 |true=>exact hb pins s1 σ H1 Q I1 q1
 |false=>exact⟨.bl false,H1,I1,rfl,q1⟩
theorem G1(ha:PE X a ta):PE X (.UnaryOp .Not a pos) (JW ta):=by
 intro pins s σ H Q I h
 refine UnaryOp_ (bG (ha pins s σ H _ I h) fun v s1 ⟨x,H1,I1,r1,q1⟩=>?_)
 obtain⟨c,rfl,q1⟩:=q1
 cases r1
 exact not_of (wpAny_truthy_bool ⟨.bl (!c),H1,I1,rfl,q1⟩)
end
def SqL(K:W.Frag)(H:Hp)(a:Addr)(xs:List V):Prop:=
 Rd H a (.lst xs)∨
  ∃(o:Obj) (aF:Array Value) (n:Nat),K.lookup a=some o∧o.cls= .type "list"∧o.dict=none∧o.data= .seq aF n∧aF.size≤sizeLine∧Vals xs aF.toList
def SqT(K:W.Frag)(H:Hp)(a:Addr)(xs:List V):Prop:=
 Rd H a (.tup xs)∨
  ∃(o:Obj) (aF:Array Value) (n:Nat),K.lookup a=some o∧o.cls= .type "tuple"∧o.data= .seq aF n∧aF.size≤sizeLine∧Vals xs aF.toList
def KG:Value→Option V
 | .none=>some .non
 | .bool b=>some (.bl b)
 | .int i _=>some (.int i)
 | .str x _=>some (.str x)
 | .bytes b _=>some (.byt b)
 | .float b _=>some (.flt b)
 | .ref a=>some (.ref a)
 | .type n=>some (.ty n)
 |_=>none
theorem RelV.abs{x:V}{u:Value}(r:RelV x u):KG u=some x:=by
 cases x with
 |non=>cases r;rfl
 |bl _=>cases r;rfl
 |int _=>obtain⟨t,rfl⟩:=r;rfl
 |str _=>obtain⟨t,rfl⟩:=r;rfl
 |byt _=>obtain⟨t,rfl⟩:=r;rfl
 |flt _=>obtain⟨t,rfl⟩:=r;rfl
 |ref _=>cases r;rfl
 |ty _=>cases r;rfl
theorem RelV.inj{x y:V}{u:Value}(r:RelV x u)(q:RelV y u):x=y:=Option.some.inj (r.abs.symm.trans q.abs)
theorem Vals.inj:∀{xs ys:List V}{us:List Value},Vals xs us→Vals ys us→xs=ys
 |_,_,_, .nil, .nil=>rfl
 |_,_,_, .cons r t, .cons r' t'=>by rw[r.inj r',Vals.inj t t']
section
variable{X:Cx}{pins:List (Addr×Obj)}{σ:St}{H:Hp}{s:Shared}{a:Addr}{xs ys:List V}
theorem SqL.of{K:W.Frag}(h:H a=some (.lst xs)):SqL K H a xs:= .inl (.inl h)
theorem SqT.of{K:W.Frag}(h:H a=some (.tup xs)):SqT K H a xs:= .inl (.inl h)
theorem Inv.list(I:Inv X pins σ H s)(h:SqL X.K H a xs):∃aF:List Value,Vals xs aF∧PlainL s.heap a aF.toArray∧xs.length≤sizeLine:=by
 rcases h with h | ⟨o,aF,n,hk,hc,hd,hs,hz,r⟩
 ·obtain⟨z,aF,n,r,e⟩:=h.ok I.hok
  exact⟨aF,r,⟨_,n,e,rfl,rfl,rfl⟩,z⟩
 ·refine⟨aF.toList,r,⟨o,n,I.kIn a o hk,hc,hd,by simpa using hs⟩,?_⟩
  have e:=r.length
  simp only[Array.length_toList] at e
  omega
theorem Inv.tuple(I:Inv X pins σ H s)(h:SqT X.K H a xs):∃aF:List Value,Vals xs aF∧IsTup s.heap a aF.toArray∧xs.length≤sizeLine:=by
 rcases h with h | ⟨o,aF,n,hk,hc,hs,hz,r⟩
 ·obtain⟨z,aF,r,p⟩:=h.ok I.hok
  exact⟨aF,r,p,z⟩
 ·refine⟨aF.toList,r,⟨o,I.kIn a o hk,hc,n,by simpa using hs⟩,?_⟩
  have e:=r.length
  simp only[Array.length_toList] at e
  omega
theorem Inv.list_inj(I:Inv X pins σ H s)(h:SqL X.K H a xs)(h':SqL X.K H a ys):xs=ys:=by
 obtain⟨aF,r,⟨o,n,e,_,_,d⟩,_⟩:=I.list h
 obtain⟨its',r',⟨o',n',e',_,_,d'⟩,_⟩:=I.list h'
 rw[e] at e';cases e'
 rw[d] at d'
 injection d' with d1 _
 have:aF=its':=by simpa using congrArg Array.toList d1
 subst this
 exact r.inj r'
theorem Inv.tuple_inj(I:Inv X pins σ H s)(h:SqT X.K H a xs)(h':SqT X.K H a ys):xs=ys:=by
 obtain⟨aF,r,⟨o,e,_,n,d⟩,_⟩:=I.tuple h
 obtain⟨its',r',⟨o',e',_,n',d'⟩,_⟩:=I.tuple h'
 rw[e] at e';cases e'
 rw[d] at d'
 injection d' with d1 _
 have:aF=its':=by simpa using congrArg Array.toList d1
 subst this
 exact r.inj r'
end
abbrev Cx.wish(X:Cx)(E:Value→Shared→Prop):Cx:={X with xe:=E}
abbrev Cx.nox(X:Cx):Cx:=X.wish fun _ _=>False
theorem Cx.Ok.wish{X:Cx}(ok:X.Ok)(E:Value→Shared→Prop):(X.wish E).Ok:=
 ⟨ok.mod,ok.kind,ok.glob,ok.blt,ok.above,ok.inj,ok.has,ok.cab,ok.hd,ok.frames,ok.stk,ok.exf,ok.bs,ok.bsz,ok.noex,ok.exfs,ok.funs,ok.frf⟩
theorem Cx.Ok.unwish{X:Cx}{E:Value→Shared→Prop}(ok:(X.wish E).Ok):X.Ok:=
 ⟨ok.mod,ok.kind,ok.glob,ok.blt,ok.above,ok.inj,ok.has,ok.cab,ok.hd,ok.frames,ok.stk,ok.exf,ok.bs,ok.bsz,ok.noex,ok.exfs,ok.funs,ok.frf⟩
section
variable{X:Cx}{pins:List (Addr×Obj)}{σ:St}{H:Hp}{s:Shared}{E:Value→Shared→Prop}
theorem Inv.wish(I:Inv X pins σ H s)(E:Value→Shared→Prop):Inv (X.wish E) pins σ H s:=⟨I.ok.wish E,I.os,I.bare,I.base,I.loc,I.cell,I.free,I.freeC,I.pin,I.hok,I.len⟩
theorem Inv.unwish(I:Inv (X.wish E) pins σ H s):Inv X pins σ H s:=⟨I.ok.unwish,I.os,I.bare,I.base,I.loc,I.cell,I.free,I.freeC,I.pin,I.hok,I.len⟩
theorem SP.unwish{D:Ends}{f:Flow}{s':Shared}(h:SP (X.wish E) pins D f s'):SP X pins D f s':=by
 cases f with
 |next=>obtain⟨σ',H',I,q⟩:=h;exact⟨σ',H',I.unwish,q⟩
 |brk=>obtain⟨σ',H',I,q⟩:=h;exact⟨σ',H',I.unwish,q⟩
 |cont=>obtain⟨σ',H',I,q⟩:=h;exact⟨σ',H',I.unwish,q⟩
 |ret u=>obtain⟨v,σ',H',I,r,q⟩:=h;exact⟨v,σ',H',I.unwish,r,q⟩
end
section
variable{X:Cx}{st:Stmt}{rest:List Stmt}{t u:TS}{e:Expr}{te:TE}{pos:Pos}
def JV:TS:=fun D σ H=>D.nx σ H
def Mn(t u:TS):TS:=fun D σ H=>t {D with nx:=u D} σ H
theorem El:PSs X [] JV:=fun _ _ σ H _ I h=>wpAny_execs_nil ⟨σ,H,I,h⟩
theorem B0(h1:PS X st t)(h2:PSs X rest u):PSs X (st::rest) (Mn t u):=by
 intro pins s σ H D I h
 refine wpAny_execs_cons (bG (h1 pins s σ H {D with nx:=u D} I h) fun f s1 q=>?_)
 cases f with
 |next=>
  obtain⟨σ',H',I',q⟩:=q
  exact h2 pins s1 σ' H' D I' q
 |ret v=>exact q
 |brk=>exact q
 |cont=>exact q
theorem Em(h1:PS X st t):PSs X [st] t:=by
 intro pins s σ H D I h
 refine wpAny_execs_cons (bG (h1 pins s σ H D I h) fun f s1 q=>?_)
 cases f with
 |next=>exact wpAny_execs_nil q
 |ret v=>exact q
 |brk=>exact q
 |cont=>exact q
theorem Inv.quiet{pins:List (Addr×Obj)}{σ:St}{H:Hp}{s:Shared}(I:Inv X pins σ H s):interactive X.env=false:=by simp[interactive,I.ok.kind]
def CH(te:TE):TS:=fun D σ H=>te σ H fun _ H1=>D.nx σ H1
theorem mT(he:PE X e te)(hs:swapsWith e none pos.line X.env=pure false:=by rfl):PS X (.Expr e pos) (CH te):=by
 intro pins s σ H D I h
 exact wpAny_Expr_any (bG (he pins s σ H _ I h) fun v s1 ⟨x,H1,I1,r1,q1⟩=>⟨σ,H1,I1,q1⟩) I.quiet hs
def Mm(te:TE):TS:=fun D σ H=>te σ H D.rt
theorem Ha(he:PE X e te):PS X (.Return (some e) pos) (Mm te):=by
 intro pins s σ H D I h
 exact wpAny_Return_some (bG (he pins s σ H _ I h) fun v s1 ⟨x,H1,I1,r1,q1⟩=>⟨x,σ,H1,I1,r1,q1⟩)
def Mi(c:TT)(t u:TS):TS:=fun D σ H=>c σ H fun b H1=>if b=true then t D σ H1 else u D σ H1
theorem Jy{c:Expr}{a b:List Stmt}{tc:TT}(hc:PT X c tc)(ha:PSs X a t)(hb:PSs X b u):PS X (.If c a b pos) (Mi tc t u):=by
 intro pins s σ H D I h
 refine wpAny_If (bG (hc pins s σ H _ I h) fun d s1 ⟨H1,I1,q1⟩=>?_)
 cases d with
 |true=>exact ha pins s1 σ H1 D I1 q1
 |false=>exact hb pins s1 σ H1 D I1 q1
end
abbrev TG:=V→St→Hp→(St→Hp→Prop)→Prop
abbrev EM:=List V→St→Hp→(St→Hp→Prop)→Prop
def PG(X:Cx)(target:Expr)(t:TG):Prop:=
 ∀(pins:List (Addr×Obj)) (s:Shared) (σ:St) (H:Hp) (v:V) (u:Value) (Q:St→Hp→Prop),Inv X pins σ H s→RelV v u→t v σ H Q→
  wpAny (model X.prog X.w) X.A (assign target X.env u) (fun _ s'=>∃σ' H',Inv X pins σ' H' s'∧Q σ' H') X.xe s
def J3(X:Cx)(ts:List Expr)(t:EM):Prop:=
 ∀(pins:List (Addr×Obj)) (s:Shared) (σ:St) (H:Hp) (vs:List V) (us:List Value) (Q:St→Hp→Prop),Inv X pins σ H s→Vals vs us→t vs σ H Q→
  wpAny (model X.prog X.w) X.A (assignInOrder ((assignEach ts X.env).map (·.2)) us) (fun _ s'=>∃σ' H',Inv X pins σ' H' s'∧Q σ' H') X.xe s
abbrev Kz:=V→V→V→Hp→(Hp→Prop)→Prop
section
variable{X:Cx}{pos:Pos}
def AO(i:Nat):TG:=fun v σ H Q=>Q (σ.set i (some v)) H
theorem ba{i:Nat}{x:Str}(hN:X.N.Nodup)(hi:X.N[i]? =some x)(hx:Loc X.env.scope x)(hf:X.fn x=true∨X.env.scope.names.lookup x=some .local:=by first | exact .inl rfl | exact .inr rfl | assumption):PG X (.Name x pos) (AO i):=by
 intro pins s σ H v u Q I r h
 exact wpAny_assign_Name (vm I hN hi hx r (fun s' I'=>⟨_,H,I',h⟩) hf)
def Ir:EM:=fun vs σ H Q=>vs=[]∧Q σ H
def EV(t:TG)(u:EM):EM:=fun vs σ H Q=>∃v r,vs=v::r∧t v σ H fun σ' H'=>u r σ' H' Q
theorem mS:J3 X [] Ir:=by
 intro pins s σ H vs us Q I r h
 obtain⟨e,h⟩:=h
 subst e
 cases r
 exact assignInOrder_nil ⟨σ,H,I,h⟩
theorem dZ{e:Expr}{es:List Expr}{t:TG}{u:EM}(h1:PG X e t)(h2:J3 X es u)
 (hs:(assignEach (e::es) X.env).map (·.2)=assign e X.env::(assignEach es X.env).map (·.2):=by rfl):J3 X (e::es) (EV t u):=by
 intro pins s σ H vs us Q I r h
 obtain⟨v,vr,e1,h⟩:=h
 subst e1
 cases r with
 |cons r rr=>
  rw[hs]
  refine assignInOrder_cons (bG (h1 pins s σ H _ _ _ I r h) fun _ s1 ⟨σ1,H1,I1,q1⟩=>?_)
  exact h2 pins s1 σ1 H1 _ _ Q I1 rr q1
def FJ(K:W.Frag)(n:Nat)(t:EM):TG:=fun v σ H Q=>∃a xs,v= .ref a∧SqT K H a xs∧xs.length=n∧t xs σ H Q
theorem sH{es:List Expr}{k:Nat}{t:EM}{n:Nat}(hc:X.calm=true)(h:J3 X es t)
 (hn:(assignEach es X.env).length=n:=by rfl)(v7:(assignEach es X.env).findIdx? (·.1)=none:=by rfl):PG X (.Tuple es k pos) (FJ X.K n t):=by
 intro pins s σ H v u Q I r hw
 obtain⟨a,xs,e1,hq,hl,hw⟩:=hw
 subst e1
 cases r
 obtain⟨aF,rv,ht,hz⟩:=I.tuple hq
 refine assign_Tuple_tuple (I.ok.hd hc) ht (by simp[hn,←hl,rv.length]) v7 fun h' hx=>?_
 have I1:Inv X pins σ H {s with heap:=h'}:=I.kept (t':=s.toks) fun b o e=>hx b o (Nat.ne_of_lt (Heap.lt_size e)) e
 exact h pins _ σ H xs _ Q I1 (by simpa using rv) hw
def d5(to ti:TE)(t:Kz):TG:=fun v σ H Q=>to σ H fun o H1=>ti σ H1 fun i H2=>t o i v H2 fun H3=>Q σ H3
def Mc(te:TE)(g:TG):TS:=fun D σ H=>te σ H fun x H1=>g x σ H1 D.nx
theorem k7{tg e:Expr}{te:TE}{g:TG}(he:PE X e te)(hg:PG X tg g)(hs:swapsWithSole [tg] e pos.line X.env=pure false:=by rfl)(hw:swappedStores [tg] e X.env=pure none:=by rfl)
 (h1:(assignEach [tg] X.env).map (·.2)=[assign tg X.env]:=by rfl):PS X (.Assign [tg] e pos) (Mc te g):=by
 intro pins s σ H D I h
 refine wpAny_Assign_stores (bG (he pins s σ H _ I h) fun v s1 ⟨x,H1,I1,r1,q1⟩=>?_) hs hw
 rw[h1]
 exact bG (hg pins s1 σ H1 x v _ I1 r1 q1) fun _ s2 q=>q
end
section
variable{X:Cx}{pos:Pos}
def Hz(c:TT)(tb:TS):TS:=fun D σ H=>∃W:Nat→St→Hp→Prop,(∃m,W m σ H)∧∀m σ H,W m σ H→
 c σ H fun b H1=>if b=true then∃N:St→Hp→Prop,(∀σ' H',N σ' H'→∃m',m'<m∧W m' σ' H')∧tb {D with nx:=N,ct:=N,bk:=D.nx} σ H1 else D.nx σ H1
theorem BX{c:Expr}{body:List Stmt}{tc:TT}{tb:TS}(hp:PassesOwn (model X.prog X.w) X.A X.env X.xe)(hc:PT X c tc)(hb:PSs X body tb):PS X (.While c body [] pos) (Hz tc tb):=by
 intro pins s σ H D I h
 obtain⟨W,⟨m0,w0⟩,turn⟩:=h
 refine wpAny_While (codeAny_whileLoop (fun n s'=>∃σ' H',Inv X pins σ' H' s'∧W n σ' H') ?_ m0 ⟨σ,H,I,w0⟩)
 rintro n s1 ⟨σ1,H1,I1,w1⟩
 refine wpAny_passesOwn hp (bG (hc pins s1 σ1 H1 _ I1 (turn n σ1 H1 w1)) fun b s2 ⟨H2,I2,q2⟩=>?_)
 cases b with
 |true=>
  obtain⟨N,hN,q2⟩:=q2
  rw[if_pos rfl]
  refine wpAny_passesOwn hp (bG (hb pins s2 σ1 H2 _ I2 q2) fun f s3 q3=>?_)
  cases f with
  |next=>
   obtain⟨σ3,H3,I3,n3⟩:=q3
   obtain⟨m',hm,w3⟩:=hN σ3 H3 n3
   exact⟨m',hm,σ3,H3,I3,w3⟩
  |cont=>
   obtain⟨σ3,H3,I3,n3⟩:=q3
   obtain⟨m',hm,w3⟩:=hN σ3 H3 n3
   exact⟨m',hm,σ3,H3,I3,w3⟩
  |brk=>exact q3
  |ret v=>exact q3
 |false=>
  rw[if_neg Bool.false_ne_true]
  exact wpAny_execs_nil ⟨σ1,H2,I2,q2⟩
end
structure It where
 go:Nat→Hp→Prop
 yld:Nat→Hp→V→Hp→Prop
 stop:Nat→Hp→Prop
def tN(X:Cx)(pins:List (Addr×Obj))(H:Hp)(b:Addr):Prop:=
 H b=none∧b≠X.env.locals∧b∉X.fs∧(b∈X.ex∨X.s₀.heap.objs.size≤b)∧(∀x c,X.env.cells.lookup x=some c→c≠b)∧∀p∈X.pn++pins,p.1≠b
theorem Inv.fpOk{X:Cx}{pins:List (Addr×Obj)}{σ:St}{H H':Hp}{s:Shared}{b:Addr}(I:Inv X pins σ H s)(hb:s.heap.objs.size≤b)(hn:H' b=none):tN X pins H' b:=by
 refine⟨hn,Nat.ne_of_gt (Nat.lt_of_lt_of_le I.lt hb),I.nofs hb, .inr (Nat.le_trans I.sz hb),fun x c e z=>?_,fun p hp z=>?_⟩
 ·obtain⟨v,q⟩:=I.cell x c e
  exact absurd (Nat.lt_of_lt_of_le q.lt (by rw[z];exact hb)) (Nat.lt_irrefl _)
 ·exact absurd (Nat.lt_of_lt_of_le (Heap.lt_size (I.pin p hp).1) (by rw[z];exact hb)) (Nat.lt_irrefl _)
structure Turn (P:Program) (w:World) (K:W.Frag) (tg:Expr) (J:It) (fp:List Addr) (it:Addr) (tn:Nat→Heap→Prop):Prop where
 mem:it∈fp
 obj:∀i h,tn i h→∀b∈fp,∃o,h.get? b=some o∧∀v,o.data≠ .cell v
 keep:∀i h h',tn i h→(∀b∈fp,∀o,h.get? b=some o→h'.get? b=some o)→tn i h'
 item:∀(X:Cx),X.prog=P→X.w=w→X.K=K→X.calm=true→∀(i:Nat) (pins:List (Addr×Obj)) (s:Shared) (σ:St) (H:Hp) (E:Value→Shared→Prop),Inv X pins σ H s→(∀b∈fp,tN X pins H b)→tn i s.heap→J.go i H→
  wpAny (model P w) X.A (pyNext (.ref it)) (fun r s1=>∃u,r=some u∧
   wpAny (model P w) X.A (letOwnedTupleGo tg (.ref it) u) (fun _ s2=>∃x H',Inv X pins σ H' s2∧RelV x u∧J.yld i H x H'∧tn (i+1) s2.heap∧∀b∈fp,H' b=none) E s1) E s
 done:∀(X:Cx),X.prog=P→X.w=w→X.K=K→X.calm=true→∀(i:Nat) (pins:List (Addr×Obj)) (s:Shared) (σ:St) (H:Hp) (E:Value→Shared→Prop),Inv X pins σ H s→(∀b∈fp,tN X pins H b)→tn i s.heap→J.stop i H→
  wpAny (model P w) X.A (pyNext (.ref it)) (fun r s1=>r=none∧Inv X pins σ H s1) E s
 self:∀(A:Around) (i:Nat) (s:Shared) (Q:Value→Shared→Prop) (E:Value→Shared→Prop),tn i s.heap→Q (.ref it) s→wpAny (model P w) A (pyIter (.ref it)) Q E s
abbrev TI:=St→Hp→(It→Hp→Prop)→Prop
def Mt(X:Cx)(pins:List (Addr×Obj))(σ:St)(tg:Expr)(R:It→Hp→Prop)(Nn:Value)(s2:Shared):Prop:=
 ∃(it:Addr) (fp:List Addr) (tn:Nat→Heap→Prop) (J:It) (H':Hp),Nn= .ref it∧Inv X pins σ H' s2∧Turn X.prog X.w X.K tg J fp it tn∧tn 0 s2.heap∧(∀b∈fp,tN X pins H' b)∧R J H'
def PI(X:Cx)(tg iter:Expr)(wi:TI):Prop:=
 ∀(pins:List (Addr×Obj)) (s:Shared) (σ:St) (H:Hp) (R:It→Hp→Prop),Inv X pins σ H s→wi σ H R→
  wpAny (model X.prog X.w) X.A (eval iter X.env) (fun v s1=>wpAny (model X.prog X.w) X.A (pyIter v) (Mt X pins σ tg R) X.xe s1) X.xe s
theorem qi{M:Model}{A:Around}{E:Value→Shared→Prop}{s:Shared}{tg:Expr}{it:Addr}{u:Value}{o:Obj}{n:String}{vs:Array Value}{Q:Unit→Shared→Prop}(ho:s.heap.get? it=some o)(hc:o.cls= .type n)(hd:o.data= .fields vs)
 (hn:["enumerate","zip","dict_itemiterator","dict_reverseitemiterator","odict_iterator","itertools.zip_longest","itertools.pairwise"].contains n=false)(hQ:Q () s):wpAny M A (letOwnedTupleGo tg (.ref it) u) Q E s:=by
 unfold letOwnedTupleGo
 cases tg<;>first
  |exact wpAny_pure hQ
  |(cases u<;>first
    |exact wpAny_pure hQ
    |(refine wpAny_bind (wpAny_load ho ?_)
      rw[hc,hd]
      show wpAny M A (if (["enumerate","zip","dict_itemiterator","dict_reverseitemiterator","odict_iterator","itertools.zip_longest","itertools.pairwise"].contains n&&vs[0]? ==some (rawInt _))=true then _ else _) Q E s
      rw[if_neg (by intro h;rw[hn,Bool.false_and] at h;cases h)]
      exact wpAny_pure hQ))
def Ku(K:W.Frag)(a:Addr):It:=
 ⟨fun i H=>∃xs x,SqL K H a xs∧xs[i]? =some x,fun i H x H'=>H'=H∧∀xs,SqL K H a xs→xs[i]? =some x,fun i H=>∃xs,SqL K H a xs∧xs.length≤i⟩
def Kv(K:W.Frag)(a:Addr):It:=
 ⟨fun i H=>∃xs x,SqT K H a xs∧xs[i]? =some x,fun i H x H'=>H'=H∧∀xs,SqT K H a xs→xs[i]? =some x,fun i H=>∃xs,SqT K H a xs∧xs.length≤i⟩
def HV(lo:Int)(n:Nat):It:=⟨fun i _=>i<n,fun i H x H'=>H'=H∧x= .int (lo+i),fun i _=>n≤i⟩
theorem zT{P:Program}{w:World}{K:W.Frag}{tg:Expr}(a it:Addr):Turn P w K tg (Ku K a) [it] it (fun i h=>h.IsListIter it a i) where
 mem:=by simp
 obj:=fun i h st b hb=>by
  have e:b=it:=by simpa using hb
  subst e
  obtain⟨o,e,c,d⟩:=st
  exact⟨o,e,fun v z=>by rw[d] at z;cases z⟩
 keep:=fun i h h' st k=>st.at fun o e=>k it (by simp) o e
 item:=by
  intro X hP hw hK hc i pins s σ H E I hf st hg
  subst hP hw hK
  obtain⟨xs,x,hq,hx⟩:=hg
  obtain⟨aF,rv,p,hz⟩:=I.list hq
  obtain⟨u,hu,ru⟩:=rv.get hx
  obtain⟨f0,f1,f2,f3,f4,f5⟩:=hf it (by simp)
  refine wpAny_pyNext_list_item st p.isList (x:=u) (by simpa using hu) fun h' oZ sb=>?_
  have I1:Inv X pins σ H {s with heap:=h'}:=I.turned (t':=s.toks) (fun b o hb e=>(sb.2 b hb).trans e) f0 f1 f3 f4 f5
  obtain⟨o,e,c,d⟩:=id oZ
  exact⟨u,rfl,qi (s:={s with heap:=h'}) e c d (by decide) ⟨x,H,I1,ru,⟨rfl,fun ys hy=>by rw[I.list_inj hy hq];exact hx⟩,oZ,fun b hb=>(hf b hb).1⟩⟩
 done:=by
  intro X hP hw hK hc i pins s σ H E I hf st hg
  subst hP hw hK
  obtain⟨xs,hq,hx⟩:=hg
  obtain⟨aF,rv,p,hz⟩:=I.list hq
  obtain⟨f0,f1,f2,f3,f4,f5⟩:=hf it (by simp)
  have hl:=rv.length
  exact wpAny_pyNext_list_end (I.ok.hd hc) st p.isList (by simp;omega) fun h' eb=>⟨rfl,I.turned (t':=s.toks) (fun b o hb e=>eb b o hb e) f0 f1 f3 f4 f5⟩
 self:=fun _ _ _ _ _ st h=>wpAny_pyIter_listiter st h
theorem xg{P:Program}{w:World}{K:W.Frag}{tg:Expr}(a it:Addr):Turn P w K tg (Kv K a) [it] it (fun i h=>h.IsTupleIter it a i) where
 mem:=by simp
 obj:=fun i h st b hb=>by
  have e:b=it:=by simpa using hb
  subst e
  obtain⟨o,e,c,d⟩:=st
  exact⟨o,e,fun v z=>by rw[d] at z;cases z⟩
 keep:=fun i h h' st k=>st.at fun o e=>k it (by simp) o e
 item:=by
  intro X hP hw hK hc i pins s σ H E I hf st hg
  subst hP hw hK
  obtain⟨xs,x,hq,hx⟩:=hg
  obtain⟨aF,rv,p,hz⟩:=I.tuple hq
  obtain⟨u,hu,ru⟩:=rv.get hx
  obtain⟨f0,f1,f2,f3,f4,f5⟩:=hf it (by simp)
  refine wpAny_pyNext_tuple_item st (show s.heap.IsTuple a aF.toArray from p) (x:=u) (by simpa using hu) fun h' oZ sb=>?_
  have I1:Inv X pins σ H {s with heap:=h'}:=I.turned (t':=s.toks) (fun b o hb e=>(sb.2 b hb).trans e) f0 f1 f3 f4 f5
  obtain⟨o,e,c,d⟩:=id oZ
  exact⟨u,rfl,qi (s:={s with heap:=h'}) e c d (by decide) ⟨x,H,I1,ru,⟨rfl,fun ys hy=>by rw[I.tuple_inj hy hq];exact hx⟩,oZ,fun b hb=>(hf b hb).1⟩⟩
 done:=by
  intro X hP hw hK hc i pins s σ H E I hf st hg
  subst hP hw hK
  obtain⟨xs,hq,hx⟩:=hg
  obtain⟨aF,rv,p,hz⟩:=I.tuple hq
  obtain⟨f0,f1,f2,f3,f4,f5⟩:=hf it (by simp)
  have hl:=rv.length
  exact wpAny_pyNext_tuple_end (I.ok.hd hc) st (show s.heap.IsTuple a aF.toArray from p) (by simp;omega) fun h' eb=>⟨rfl,I.turned (t':=s.toks) (fun b o hb e=>eb b o hb e) f0 f1 f3 f4 f5⟩
 self:=fun _ _ _ _ _ st h=>wpAny_pyIter_tupleiter st h
theorem xf{P:Program}{w:World}{K:W.Frag}{tg:Expr}(it:Addr)(lo:Int)(n:Nat):Turn P w K tg (HV lo n) [it] it (fun i h=>IsRangeIter h it (lo+(i:Nat)*1) ((n:Int) - (i:Nat)) 1) where
 mem:=by simp
 obj:=fun i h st b hb=>by
  have e:b=it:=by simpa using hb
  subst e
  exact⟨_,st,fun v z=>by
   have z':Data.fields _=Data.cell v:=z
   cases z'⟩
 keep:=fun i h h' st k=>k it (by simp) _ st
 item:=by
  intro X hP hw hK hc i pins s σ H E I hf st hg
  subst hP hw hK
  obtain⟨f0,f1,f2,f3,f4,f5⟩:=hf it (by simp)
  have W:=Walks.range (prog:=X.prog) (w:=X.w) (I.ok.hd hc) it lo 1 n
  refine W.item i s _ _ hg st fun v h' tk hv oZ kk=>?_
  obtain⟨t,rfl⟩:=hv
  have I1:Inv X pins σ H {s with heap:=h',toks:=tk}:=I.turned (fun b o hb e=>kk b o (by simpa using hb) e) f0 f1 f3 f4 f5
  refine⟨_,rfl,qi (s:={s with heap:=h',toks:=tk}) (n:="range_iterator") oZ rfl rfl (by decide) ⟨.int (lo+i),H,I1,⟨t,?_⟩,⟨rfl,rfl⟩,oZ,fun b hb=>(hf b hb).1⟩⟩
  rw[Int.mul_one]
 done:=by
  intro X hP hw hK hc i pins s σ H E I hf st hg
  subst hP hw hK
  obtain⟨f0,f1,f2,f3,f4,f5⟩:=hf it (by simp)
  exact wpAny_pyNext_range_end (I.ok.hd hc) st (by have:n≤i:=hg;omega) fun h' eb=>⟨rfl,I.turned (t':=s.toks) (fun b o hb e=>eb b o hb e) f0 f1 f3 f4 f5⟩
 self:=fun _ _ _ _ _ st h=>wpAny_pyIter_rangeiter st h
section
variable{X:Cx}{tg:Expr}
def Je(K:W.Frag)(tl:TE):TI:=fun σ H R=>tl σ H fun x H1=>∃a,x= .ref a∧(∃xs,SqL K H1 a xs)∧R (Ku K a) H1
def LM(K:W.Frag)(tl:TE):TI:=fun σ H R=>tl σ H fun x H1=>∃a,x= .ref a∧(∃xs,SqT K H1 a xs)∧R (Kv K a) H1
theorem Ef{l:Expr}{tl:TE}(hl:PE X l tl):PI X tg l (Je X.K tl):=by
 intro pins s σ H R I h
 refine bG (hl pins s σ H _ I h) fun v s1 ⟨x,H1,I1,r1,q1⟩=>?_
 obtain⟨a,e,⟨xs,hq⟩,q⟩:=q1
 subst e
 cases r1
 obtain⟨aF,rv,p,hz⟩:=I1.list hq
 refine wpAny_pyIter_list p.isList ?_
 refine⟨s1.heap.objs.size,[s1.heap.objs.size],_,_,H1,rfl,I1.kept (t':=s1.toks) fun b o e=>Heap.get?_push_of_some _ e,zT a _,⟨_,Heap.get?_push_size _ rfl,rfl,rfl⟩,fun b hb=>?_,q⟩
 have e:b=s1.heap.objs.size:=by simpa using hb
 subst e
 exact I1.fpOk (Nat.le_refl _) (I1.hok.fresh (Nat.le_refl _))
theorem G9{l:Expr}{tl:TE}(hl:PE X l tl):PI X tg l (LM X.K tl):=by
 intro pins s σ H R I h
 refine bG (hl pins s σ H _ I h) fun v s1 ⟨x,H1,I1,r1,q1⟩=>?_
 obtain⟨a,e,⟨xs,hq⟩,q⟩:=q1
 subst e
 cases r1
 obtain⟨aF,rv,p,hz⟩:=I1.tuple hq
 refine wpAny_pyIter_tuple (show s1.heap.IsTuple a aF.toArray from p) ?_
 refine⟨s1.heap.objs.size,[s1.heap.objs.size],_,_,H1,rfl,I1.kept (t':=s1.toks) fun b o e=>Heap.get?_push_of_some _ e,xg a _,⟨_,Heap.get?_push_size _ rfl,rfl,rfl⟩,fun b hb=>?_,q⟩
 have e:b=s1.heap.objs.size:=by simpa using hb
 subst e
 exact I1.fpOk (Nat.le_refl _) (I1.hok.fresh (Nat.le_refl _))
theorem u4{pins:List (Addr×Obj)}{σ:St}{H:Hp}{s:Shared}{R:It→Hp→Prop}{E:Value→Shared→Prop}{lo hi:Int}{t u v:Tok}{tk:Nat}(I:Inv X pins σ H s)(h1: -(2 ^ 62)≤lo)(h2:lo<2 ^ 62)(h3: -(2 ^ 62)≤hi)(h4:hi<2 ^ 62)
 (q:R (HV lo (hi - lo).toNat) H):wpAny (model X.prog X.w) X.A (pyIter (.ref s.heap.objs.size)) (Mt X pins σ tg R) E {s with heap:=s.heap.push {cls:= .type "range",data:= .fields #[.int lo t, .int hi u, .int 1 v]},toks:=tk}:=by
 refine wpAny_pyIter_range (IsRange.new ..) (small_one h1 h2 h3 h4) ?_
 have I1:Inv X pins σ H {s with heap:=s.heap.push {cls:= .type "range",data:= .fields #[.int lo t, .int hi u, .int 1 v]},toks:=tk}:=I.kept fun b o e=>Heap.get?_push_of_some _ e
 refine⟨(s.heap.push {cls:= .type "range",data:= .fields #[.int lo t, .int hi u, .int 1 v]}).objs.size,[(s.heap.push {cls:= .type "range",data:= .fields #[.int lo t, .int hi u, .int 1 v]}).objs.size],_,_,H,rfl,
  I1.kept (t':=tk) fun b o e=>Heap.get?_push_of_some _ e,xf _ lo (hi - lo).toNat,?_,fun b hb=>?_,q⟩
 ·have e1:lo+((0:Nat):Int)*1=lo:=by simp
  have e2:(((hi - lo).toNat:Nat):Int) - ((0:Nat):Int)=Builtin.Range.rangeSize lo hi 1:=by rw[rangeSize_one];split<;>omega
  show IsRangeIter _ _ (lo+((0:Nat):Int)*1) ((((hi - lo).toNat:Nat):Int) - ((0:Nat):Int)) 1
  rw[e1,e2]
  exact Heap.get?_push_size _ rfl
 ·have e:b=(s.heap.push {cls:= .type "range",data:= .fields #[.int lo t, .int hi u, .int 1 v]}).objs.size:=by simpa using hb
  subst e
  exact I1.fpOk (Nat.le_refl _) (I1.hok.fresh (Nat.le_refl _))
def Jf(ta:TA):TI:=fun σ H R=>ta σ H fun vs H1=>∃j:Int,vs=[.int j]∧ -(2 ^ 62)≤j∧j<2 ^ 62∧R (HV 0 j.toNat) H1
def Jg(ta:TA):TI:=fun σ H R=>ta σ H fun vs H1=>∃i j:Int,vs=[.int i, .int j]∧(-(2 ^ 62)≤i∧i<2 ^ 62∧ -(2 ^ 62)≤j∧j<2 ^ 62)∧R (HV i (j - i).toNat) H1
theorem zI{a:Expr}{ta:TA}{p pos:Pos}(hg:Gl X "range")(hm:X.mg "range"=none)(ha:PA X [a] ta)(hs:starEach [a] X.env=[(false,eval a X.env)]:=by rfl):PI X tg (.Call (.Name "range" p) [a] [] pos) (Jf ta):=by
 intro pins s σ H R I h
 refine Call_ (je I hg hm boot_range (PyProof.Rows.callWith_type1 (bG (ha pos pins s σ H _ I h) fun us s1 ⟨vs,H1,I1,r1,q1⟩=>?_) hs rfl))
 obtain⟨j,e,q1,q2,q⟩:=q1
 subst e
 cases r1 with
 |cons r rr=>
  cases rr
  obtain⟨t,rfl⟩:=r
  exact call_range_1 (u4 I1 (by omega) (by omega) q1 q2 (by simpa using q))
theorem zJ{a b:Expr}{ta:TA}{p pos:Pos}(hg:Gl X "range")(hm:X.mg "range"=none)(ha:PA X [a,b] ta)(hs:starEach [a,b] X.env=[(false,eval a X.env),(false,eval b X.env)]:=by rfl)(HM:starEach [b] X.env=[(false,eval b X.env)]:=by rfl):
 PI X tg (.Call (.Name "range" p) [a,b] [] pos) (Jg ta):=by
 intro pins s σ H R I h
 refine Call_ (je I hg hm boot_range (PyProof.Rows.callWith_type1 (bG (ha pos pins s σ H _ I h) fun us s1 ⟨vs,H1,I1,r1,q1⟩=>?_) (by rw[hs,HM]) (by rw[HM];rfl)))
 obtain⟨i,j,e,⟨q1,q2,q3,q4⟩,q⟩:=q1
 subst e
 cases r1 with
 |cons r rr=>
  cases rr with
  |cons r' rr=>
   cases rr
   obtain⟨t,rfl⟩:=r
   obtain⟨t',rfl⟩:=r'
   exact call_range_2 (u4 I1 q1 q2 q3 q4 q)
def Mh(wi:TI)(g:TG)(tb:TS):TS:=fun D σ H=>wi σ H fun J H1=>∃W:Nat→Nat→St→Hp→Prop,(∃m,W 0 m σ H1)∧∀i m σ H,W i m σ H→
 (J.stop i H∧D.nx σ H)∨(J.go i H∧∃N:St→Hp→Prop,(∀σ' H',N σ' H'→∃m',m'<m∧W (i+1) m' σ' H')∧∀x H',J.yld i H x H'→g x σ H' fun σ2 H2=>tb {D with nx:=N,ct:=N,bk:=D.nx} σ2 H2)
def oG(fp:List Addr)(h:Heap):List (Addr×Obj):=fp.filterMap fun b=>(h.get? b).map fun o=>(b,o)
theorem gi{fp:List Addr}{h:Heap}{b:Addr}{o:Obj}(hb:b∈fp)(e:h.get? b=some o):(b,o)∈oG fp h:=List.mem_filterMap.mpr ⟨b,hb,by rw[e];rfl⟩
theorem zv{fp:List Addr}{h:Heap}{p:Addr×Obj}(hp:p∈oG fp h):p.1∈fp∧h.get? p.1=some p.2:=by
 obtain⟨b,hb,e⟩:=List.mem_filterMap.mp hp
 cases q:h.get? b with
 |none=>rw[q] at e;cases e
 |some o=>
  rw[q] at e
  have e':(b,o)=p:=Option.some.inj e
  subst e'
  exact⟨hb,q⟩
theorem Inv.pinned{pins:List (Addr×Obj)}{σ:St}{H:Hp}{s:Shared}{fp:List Addr}(I:Inv X pins σ H s)(hf:∀b∈fp,tN X pins H b)(ho:∀b∈fp,∃o,s.heap.get? b=some o∧∀v,o.data≠ .cell v):Inv X (pins++oG fp s.heap) σ H s:=
 I.pins_of fun p hp=>(List.mem_append.mp hp).elim (fun z=>I.pin p (List.mem_append_right _ z)) fun z=>by
  obtain⟨hb,e⟩:=zv z
  obtain⟨f0,f1,f2,_⟩:=hf p.1 hb
  obtain⟨o,e',d⟩:=ho p.1 hb
  rw[e] at e';cases e'
  exact⟨e,f0,f1,f2,d⟩
theorem Inv.unpinned{pins pl:List (Addr×Obj)}{σ:St}{H:Hp}{s:Shared}(I:Inv X (pins++pl) σ H s):Inv X pins σ H s:=I.pins_of fun p hp=>I.pin p (List.mem_append_right _ (List.mem_append_left _ hp))
theorem G_{iter:Expr}{body:List Stmt}{wi:TI}{g:TG}{tb:TS}{pos:Pos}(hp:PassesOwn (model X.prog X.w) X.A X.env X.xe)(hc:X.calm=true)(hi:PI X tg iter wi)(hg:PG X tg g)(hb:PSs X body tb)
 (hs:∀x,foldedSetIterable iter X.env x=pure x:=by intro _;rfl):PS X (.For tg iter body [] pos) (Mh wi g tb):=by
 intro pins s σ H D I h
 refine wpAny_For (bG (hi pins s σ H _ I h) fun v s1 h1=>bG h1 fun Nn s2 h2=>?_) hs
 obtain⟨it,fp,tn,J,H2,e,I2,T,JS,f2,W,⟨m0,w0⟩,turn⟩:=h2
 subst e
 have Hr:∀{H':Hp},(∀b∈fp,H' b=none)→∀b∈fp,tN X pins H' b:=fun hn b hb=>⟨hn b hb,(f2 b hb).2⟩
 refine codeAny_forLoop_any (fun n s'=>∃i σ' H',Inv X pins σ' H' s'∧tn i s'.heap∧(∀b∈fp,H' b=none)∧W i n σ' H') ?_ m0 ⟨0,σ,H2,I2,JS,fun b hb=>(f2 b hb).1,w0⟩
 rintro n s3 ⟨i,σ3,H3,I3,HP,J7,w3⟩
 rcases turn i n σ3 H3 w3 with⟨stop,qn⟩ | ⟨go,N,hN,step⟩
 ·refine wpAny_passesOwn hp (bG (T.done X rfl rfl rfl hc i pins s3 σ3 H3 X.xe I3 (Hr J7) HP stop) fun r s4 ⟨hr,I4⟩=>?_)
  subst hr
  exact wpAny_execs_nil ⟨σ3,H3,I4,qn⟩
 ·refine wpAny_passesOwn hp (bG (T.item X rfl rfl rfl hc i pins s3 σ3 H3 X.xe I3 (Hr J7) HP go) fun r s4 ⟨u,hr,h4⟩=>?_)
  subst hr
  refine wpAny_passesOwn hp (bG h4 fun _ s5 ⟨x,H5,I5,r5,y5,Mb,NT⟩=>?_)
  have I5':=I5.pinned (Hr NT) (T.obj _ _ Mb)
  refine wpAny_passesOwn hp (bG (hg _ s5 σ3 H5 x u _ I5' r5 (step x H5 y5)) fun _ s6 ⟨σ6,H6,I6,q6⟩=>?_)
  refine wpAny_passesOwn hp (bG (hb _ s6 σ6 H6 _ I6 q6) fun f s7 q7=>?_)
  have again:∀{σ7:St}{H7:Hp},Inv X (pins++oG fp s5.heap) σ7 H7 s7→N σ7 H7→∃m,m<n∧∃i σ' H',Inv X pins σ' H' s7∧tn i s7.heap∧(∀b∈fp,H' b=none)∧W i m σ' H':=fun {σ7 H7} I7 n7=>by
   obtain⟨m',hm,w7⟩:=hN σ7 H7 n7
   refine⟨m',hm,i+1,σ7,H7,I7.unpinned,T.keep _ _ _ Mb fun b hb o e=>(I7.pin (b,o) (List.mem_append_right _ (List.mem_append_right _ (gi hb e)))).1,fun b hb=>?_,w7⟩
   obtain⟨o,e,d⟩:=T.obj _ _ Mb b hb
   exact(I7.pin (b,o) (List.mem_append_right _ (List.mem_append_right _ (gi hb e)))).2.1
  cases f with
  |next=>obtain⟨σ7,H7,I7,n7⟩:=q7;exact again I7 n7
  |cont=>obtain⟨σ7,H7,I7,n7⟩:=q7;exact again I7 n7
  |brk=>obtain⟨σ7,H7,I7,q7⟩:=q7;exact⟨σ7,H7,I7.unpinned,q7⟩
  |ret v=>obtain⟨x7,σ7,H7,I7,r7,q7⟩:=q7;exact⟨x7,σ7,H7,I7.unpinned,r7,q7⟩
end
abbrev R2:=V→V→Hp→VK→Prop
def OpR(X:Cx)(f:Value→Value→Sem Value)(r:R2):Prop:=
 ∀(pins:List (Addr×Obj)) (s:Shared) (σ:St) (H:Hp) (x y:V) (v u:Value) (Q:VK),Inv X pins σ H s→RelV x v→RelV y u→r x y H Q→
  wpAny (model X.prog X.w) X.A (f v u) (EP X pins σ Q) X.xe s
def KC(X:Cx)(f:Value→Sem Value)(r:V→Hp→VK→Prop):Prop:=
 ∀(pins:List (Addr×Obj)) (s:Shared) (σ:St) (H:Hp) (x:V) (v:Value) (Q:VK),Inv X pins σ H s→RelV x v→r x H Q→
  wpAny (model X.prog X.w) X.A (f v) (EP X pins σ Q) X.xe s
def CallR(X:Cx)(f:Value)(r:List V→Hp→VK→Prop):Prop:=
 ∀(pins:List (Addr×Obj)) (s:Shared) (σ:St) (H:Hp) (xs:List V) (us:List Value) (Q:VK),Inv X pins σ H s→Vals xs us→r xs H Q→
  wpAny (model X.prog X.w) X.A (call f us) (EP X pins σ Q) X.xe s
def KA(X:Cx)(r:V→Hp→(Bool→Hp→Prop)→Prop):Prop:=
 ∀(pins:List (Addr×Obj)) (s:Shared) (σ:St) (H:Hp) (x:V) (v:Value) (Q:Bool→Hp→Prop),Inv X pins σ H s→RelV x v→r x H Q→
  wpAny (model X.prog X.w) X.A (truthy v) (TP X pins σ Q) X.xe s
def JX(r:R2)(ta tb:TE):TE:=fun σ H Q=>ta σ H fun x H1=>tb σ H1 fun y H2=>r x y H2 Q
def Pt(r:V→Hp→VK→Prop)(ta:TE):TE:=fun σ H Q=>ta σ H fun x H1=>r x H1 Q
def rI(C:Int→Int→Prop)(g:Int→Int→V):R2:=fun x y H Q=>∃i j,x= .int i∧y= .int j∧C i j∧Q (g i j) H
def zM(g:Int→Int→V):R2:=fun x y H Q=>∃i j,x= .int i∧y= .int j∧Q (g i j) H
def rU(g:Int→V):V→Hp→VK→Prop:=fun x H Q=>∃i,x= .int i∧Q (g i) H
section
variable{X:Cx}{a b c:Expr}{ta tb tc:TE}{pos:Pos}
theorem Fq(ha:PE X a ta)(hb:PE X b tb){pins:List (Addr×Obj)}{s:Shared}{σ:St}{H:Hp}{R:V→V→Hp→Prop}(I:Inv X pins σ H s)
 (h:ta σ H fun x H1=>tb σ H1 fun y H2=>R x y H2){Q:Value→Shared→Prop}{f:Value→Value→Sem Value}
 (hf:∀v u s2 x y H2,Inv X pins σ H2 s2→RelV x v→RelV y u→R x y H2→wpAny (model X.prog X.w) X.A (f v u) Q X.xe s2):
 wpAny (model X.prog X.w) X.A (eval a X.env) (fun v s₁=>wpAny (model X.prog X.w) X.A (eval b X.env) (fun u s₂=>wpAny (model X.prog X.w) X.A (f v u) Q X.xe s₂) X.xe s₁) X.xe s:=by
 refine bG (ha pins s σ H _ I h) fun v s1 ⟨x,H1,I1,r1,q1⟩=>?_
 refine bG (hb pins s1 σ H1 _ I1 q1) fun u s2 ⟨y,H2,I2,r2,q2⟩=>?_
 exact hf v u s2 x y H2 I2 r1 r2 q2
theorem Jw{op:Operator}{r:R2}(ho:OpR X (binaryOp op) r)(ha:PE X a ta)(hb:PE X b tb):PE X (.BinOp a op b pos) (JX r ta tb):=by
 intro pins s σ H Q I h
 exact wpAny_BinOp (Fq ha hb I h fun v u s2 x y H2 I2 rx ry q=>ho pins s2 σ H2 x y v u Q I2 rx ry q)
theorem Jx{op:UnaryOp}{r:V→Hp→VK→Prop}(ho:KC X (unaryOp op) r)(ha:PE X a ta):PE X (.UnaryOp op a pos) (Pt r ta):=by
 intro pins s σ H Q I h
 exact UnaryOp_ (bG (ha pins s σ H _ I h) fun v s1 ⟨x,H1,I1,r1,q1⟩=>ho pins s1 σ H1 x v Q I1 r1 q1)
theorem LZ{f:Value→Value→Sem Value}{C:Int→Int→Prop}{g:Int→Int→Int}
 (rule:∀(i j:Int) (t u:Tok) (s:Shared) (Q:Value→Shared→Prop) (E:Value→Shared→Prop),C i j→Q (.int (g i j) s.toks) {s with toks:=s.toks+1}→wpAny (model X.prog X.w) X.A (f (.int i t) (.int j u)) Q E s):
 OpR X f (rI C fun i j=> .int (g i j)):=by
 intro pins s σ H x y v u Q I rx ry h
 obtain⟨i,j,rfl,rfl,hc,q⟩:=h
 obtain⟨t,rfl⟩:=rx
 obtain⟨t',rfl⟩:=ry
 exact rule i j t t' s _ _ hc ⟨.int (g i j),H,I.tok _,⟨_,rfl⟩,q⟩
theorem Jp{f:Value→Value→Sem Value}{g:Int→Int→Int}
 (rule:∀(i j:Int) (t u:Tok) (s:Shared) (Q:Value→Shared→Prop) (E:Value→Shared→Prop),Q (.int (g i j) s.toks) {s with toks:=s.toks+1}→wpAny (model X.prog X.w) X.A (f (.int i t) (.int j u)) Q E s):
 OpR X f (zM fun i j=> .int (g i j)):=by
 intro pins s σ H x y v u Q I rx ry h
 obtain⟨i,j,rfl,rfl,q⟩:=h
 obtain⟨t,rfl⟩:=rx
 obtain⟨t',rfl⟩:=ry
 exact rule i j t t' s _ _ ⟨.int (g i j),H,I.tok _,⟨_,rfl⟩,q⟩
theorem Jo{f:Value→Value→Sem Value}{g:Int→Int→Bool}
 (rule:∀(i j:Int) (t u:Tok) (s:Shared) (Q:Value→Shared→Prop) (E:Value→Shared→Prop),Q (.bool (g i j)) s→wpAny (model X.prog X.w) X.A (f (.int i t) (.int j u)) Q E s):
 OpR X f (zM fun i j=> .bl (g i j)):=by
 intro pins s σ H x y v u Q I rx ry h
 obtain⟨i,j,rfl,rfl,q⟩:=h
 obtain⟨t,rfl⟩:=rx
 obtain⟨t',rfl⟩:=ry
 exact rule i j t t' s _ _ ⟨.bl (g i j),H,I,rfl,q⟩
def HR(i j:Int):Prop:=0<j∧j<1073741824
def CMul(i j:Int):Prop:=(-(2 ^ 64)<i∧i<2 ^ 64)∨(-(2 ^ 64)<j∧j<2 ^ 64)
theorem CMul.ok{i j:Int}(h:CMul i j):IntMulOk i j:=by
 rcases h with⟨h1,h2⟩ | ⟨h1,h2⟩
 ·exact .of_left (intBits_le_64 h1 h2)
 ·exact .of_right (intBits_le_64 h1 h2)
theorem GD:OpR X (binaryOp .Add) (zM fun i j=> .int (i+j)):=Jp fun _ _ _ _ _ _ _ q=>add_int q
theorem GI:OpR X (binaryOp .Sub) (zM fun i j=> .int (i - j)):=Jp fun _ _ _ _ _ _ _ q=>sub_int q
theorem GG:OpR X (binaryOp .Mult) (rI CMul fun i j=> .int (i*j)):=LZ fun _ _ _ _ _ _ _ hc q=>mul_int q hc.ok
theorem DZ:OpR X (binaryOp .FloorDiv) (rI HR fun i j=> .int (i / j)):=LZ fun i j _ _ _ _ _ hc q=>by
 have h1:(0:Int)<j:=hc.1
 have h2:j<1073741824:=hc.2
 exact floordiv_int (by omega) (by rw[Int.fdiv_eq_ediv_of_nonneg i (by omega)];exact q) (.inl (PyProof.noPylong_small (by omega)))
theorem GF:OpR X (binaryOp .Mod) (rI (fun _ j=>0<j) fun i j=> .int (i % j)):=LZ fun i j _ _ _ _ _ hc q=>by
 have h1:(0:Int)<j:=hc
 exact mod_int' (by omega) (by rw[Int.fmod_eq_emod_of_nonneg i (by omega)];exact q)
theorem Pu{f:Value→Sem Value}{g:Int→Int}
 (rule:∀(i:Int) (t:Tok) (s:Shared) (Q:Value→Shared→Prop) (E:Value→Shared→Prop),Q (.int (g i) s.toks) {s with toks:=s.toks+1}→wpAny (model X.prog X.w) X.A (f (.int i t)) Q E s):
 KC X f (rU fun i=> .int (g i)):=by
 intro pins s σ H x v Q I rx h
 obtain⟨i,rfl,q⟩:=h
 obtain⟨t,rfl⟩:=rx
 exact rule i t s _ _ ⟨.int (g i),H,I.tok _,⟨_,rfl⟩,q⟩
theorem HE:KC X (unaryOp .USub) (rU fun i=> .int (-i)):=Pu fun _ _ _ _ _ q=>neg_int q
end
section
variable{X:Cx}{a b c:Expr}{ta tb tc:TE}{pos:Pos}
theorem FE{pins:List (Addr×Obj)}{σ:St}{H:Hp}{s:Shared}{Q:VK}{k k':Bool}(I:Inv X pins σ H s)(q:Q (.bl k) H)(e:k=k'):EP X pins σ Q (.bool k') s:=by
 subst e
 exact⟨.bl k,H,I,rfl,q⟩
theorem BC:OpR X (compareOp .Lt) (zM fun i j=> .bl (decide (i<j))):=Jo fun _ _ _ _ _ _ _ q=>lt_int q
theorem qJ:OpR X (compareOp .LtE) (zM fun i j=> .bl (decide (i≤j))):=Jo fun _ _ _ _ _ _ _ q=>le_int q
theorem zx:OpR X (compareOp .In) (fun x y H Q=>∃i j,x= .str i∧y= .str j∧Q (.bl (!(Builtin.Str.occurrences j i 0 j.length 1).isEmpty)) H):=by
 intro pins s σ H x y v u Q I rx ry h
 obtain⟨i,j,rfl,rfl,q⟩:=h
 obtain⟨t,rfl⟩:=rx
 obtain⟨t',rfl⟩:=ry
 exact in_str (FE I q rfl)
theorem OpR.or{f:Value→Value→Sem Value}{r r':R2}(h:OpR X f r)(h':OpR X f r'):OpR X f (fun x y H Q=>r x y H Q∨r' x y H Q):=by
 intro pins s σ H x y v u Q I rx ry q
 rcases q with q | q
 ·exact h pins s σ H x y v u Q I rx ry q
 ·exact h' pins s σ H x y v u Q I rx ry q
theorem Bu(b:Expr){op:CmpOp}(h:op≠ .In:=by decide)(h2:op≠ .NotIn:=by decide):behindInMarks op b=false:=by
 have e1:(op==CmpOp.In)=false:=by cases op<;>first | rfl | exact absurd rfl h
 have e2:(op==CmpOp.NotIn)=false:=by cases op<;>first | rfl | exact absurd rfl h2
 cases b<;>simp[behindInMarks,e1,e2]
theorem Ed{op:CmpOp}{r:R2}(ho:OpR X (compareOp op) r)(ha:PE X a ta)(hb:PE X b tb)(hm:behindInMarks op b=false):PE X (.Compare a [op] [b] pos) (JX r ta tb):=by
 intro pins s σ H Q I h
 exact wpAny_Compare1 (Fq ha hb I h fun v u s2 x y H2 I2 rx ry q=>ho pins s2 σ H2 x y v u Q I2 rx ry q) hm
def Fj(t:TE):TT:=fun σ H Q=>t σ H fun x H'=>∃k,x= .bl k∧Q k H'
theorem En{op:CmpOp}{r:R2}(ho:OpR X (compareOp op) r)(ha:PE X a ta)(hb:PE X b tb)(hm:behindInMarks op b=false):PT X (.Compare a [op] [b] pos) (Fj (JX r ta tb)):=by
 intro pins s σ H Q I h
 refine wpAny_isTrue_Compare1 (bG (ha pins s σ H _ I h) fun v s1 ⟨x,H1,I1,r1,q1⟩=>bG (hb pins s1 σ H1 _ I1 q1) fun u s2 ⟨y,H2,I2,r2,q2⟩=>
  bG (ho pins s2 σ H2 x y v u _ I2 r1 r2 q2) fun c s3 ⟨z,H3,I3,r3,k,e,q3⟩=>?_) hm
 subst e
 cases r3
 exact wpAny_truthy_bool ⟨H3,I3,q3⟩
def xb(r r':R2)(ta tb tc:TE):TE:=fun σ H Q=>ta σ H fun x H1=>tb σ H1 fun y H2=>r x y H2 fun z H3=>∃k,z= .bl k∧
 (if k=true then tc σ H3 fun w' H4=>r' y w' H4 Q else Q (.bl false) H3)
theorem BP{op wG:CmpOp}{r r':R2}(ho:OpR X (compareOp op) r)(qj:OpR X (compareOp wG) r')(ha:PE X a ta)(hb:PE X b tb)(hc:PE X c tc)
 (hm:lastMarks [op,wG] [b,c]=false:=by with_unfolding_all rfl):PE X (.Compare a [op,wG] [b,c] pos) (xb r r' ta tb tc):=by
 intro pins s σ H Q I h
 refine Compare_chain (bG (ha pins s σ H _ I h) fun v s1 ⟨x,H1,I1,r1,q1⟩=>chain_link (bG (hb pins s1 σ H1 _ I1 q1) fun u s2 ⟨y,H2,I2,r2,q2⟩=>
  bG (ho pins s2 σ H2 x y v u _ I2 r1 r2 q2) fun d s3 ⟨z,H3,I3,r3,k,e,q3⟩=>?_)) hm
 subst e
 cases r3
 refine wpAny_truthy_bool ?_
 cases k with
 |false=>exact ite_ff ⟨.bl false,H3,I3,rfl,q3⟩
 |true=>exact ite_tt (chain_last (bG (hc pins s3 σ H3 _ I3 q3) fun w' s4 ⟨z',H4,I4,r4,q4⟩=>qj pins s4 σ H4 y z' u w' Q I4 r2 r4 q4))
theorem B2{op wG:CmpOp}{r r':R2}(ho:OpR X (compareOp op) r)(qj:OpR X (compareOp wG) r')(ha:PE X a ta)(hb:PE X b tb)(hc:PE X c tc)
 (hm:lastMarks [op,wG] [b,c]=false:=by with_unfolding_all rfl):PT X (.Compare a [op,wG] [b,c] pos) (Fj (xb r r' ta tb tc)):=by
 intro pins s σ H Q I h
 refine isTrue_chain (bG (ha pins s σ H _ I h) fun v s1 ⟨x,H1,I1,r1,q1⟩=>test_link (bG (hb pins s1 σ H1 _ I1 q1) fun u s2 ⟨y,H2,I2,r2,q2⟩=>
  bG (ho pins s2 σ H2 x y v u _ I2 r1 r2 q2) fun d s3 ⟨z,H3,I3,r3,k,e,q3⟩=>?_)) hm
 subst e
 cases r3
 refine wpAny_truthy_bool ?_
 cases k with
 |false=>
  obtain⟨k',e',q'⟩:=q3
  cases e'
  exact ite_ff ⟨H3,I3,q'⟩
 |true=>
  refine ite_tt (test_last (bG (hc pins s3 σ H3 _ I3 q3) fun w' s4 ⟨z',H4,I4,r4,q4⟩=>bG (qj pins s4 σ H4 y z' u w' _ I4 r2 r4 q4) fun d' s5 ⟨z2,H5,I5,r5,k2,e2,q5⟩=>?_))
  subst e2
  cases r5
  exact wpAny_truthy_bool ⟨H5,I5,q5⟩
def HZ(K:W.Frag)(x:V)(H:Hp)(k:Bool):Prop:=
 match x with
 | .non=>k=false
 | .bl b=>k=b
 | .int i=>k=(i !=0)
 | .str y=>y.length≤sizeLine∧k=((y.length:Int) !=0)
 | .byt y=>y.size≤sizeLine∧k=((y.size:Int) !=0)
 | .ref p=>(∃xs,SqL K H p xs∧k=!xs.isEmpty)∨(∃xs,SqT K H p xs∧k=!xs.isEmpty)∨∃aw,H p=some (.dK aw)∧k=!aw.isEmpty
 |_=>False
theorem v_{κ:Type}{aw:List (κ×V)}{vs:List (κ×Value)}(r:KV aw vs):(!vs.isEmpty)=!aw.isEmpty:=by
 cases r<;>rfl
theorem nJ{xs:List V}{aF:List Value}(r:Vals xs aF):(!aF.toArray.isEmpty)=!xs.isEmpty:=by
 cases r<;>simp
theorem kP:(sizeLine:Nat)<2 ^ 63:=by rw[sizeLine_eq];decide
theorem HC:KA X (fun x H Q=>∃k,HZ X.K x H k∧Q k H):=by
 intro pins s σ H x v Q I rx h
 obtain⟨k,e,q⟩:=h
 have hl:=kP
 have hs:sizeLine=16777216:=sizeLine_eq
 cases x with
 |non=>
  cases rx
  have e':k=false:=e
  subst e'
  exact truthy_none ⟨H,I,q⟩
 |bl b=>
  cases rx
  have e':k=b:=e
  subst e'
  exact wpAny_truthy_bool ⟨H,I,q⟩
 |int i=>
  obtain⟨t,rfl⟩:=rx
  have e':k=(i !=0):=e
  subst e'
  exact PySem.P.truthy_int ⟨H,I,q⟩
 |str y=>
  obtain⟨t,rfl⟩:=rx
  obtain⟨hy,e'⟩:y.length≤sizeLine∧k=((y.length:Int) !=0):=e
  subst e'
  exact PySem.P.truthy_str (by omega) ⟨H,I.tok _,q⟩
 |byt y=>
  obtain⟨t,rfl⟩:=rx
  obtain⟨hy,e'⟩:y.size≤sizeLine∧k=((y.size:Int) !=0):=e
  subst e'
  exact PySem.W.truthy_bytes (by omega) ⟨H,I.tok _,q⟩
 |ref p=>
  cases rx
  have e':(∃xs,SqL X.K H p xs∧k=!xs.isEmpty)∨(∃xs,SqT X.K H p xs∧k=!xs.isEmpty)∨∃aw,H p=some (.dK aw)∧k=!aw.isEmpty:=e
  rcases e' with⟨xs,hx,e'⟩ | ⟨xs,hx,e'⟩ | ⟨aw,hx,e'⟩
  ·subst e'
   obtain⟨aF,r,pl,hz⟩:=I.list hx
   have hlen:=r.length
   exact wpAny_truthy_list pl.isList (by simp only[List.size_toArray];omega) ⟨H,I.tok _,by rw[nJ r];exact q⟩
  ·subst e'
   obtain⟨aF,r,pl,hz⟩:=I.tuple hx
   have hlen:=r.length
   exact truthy_tuple pl (by simp only[List.size_toArray];omega) ⟨H,I.tok _,by rw[nJ r];exact q⟩
  ·subst e'
   obtain⟨hz,hS,vs,r,m⟩:aw.length≤sizeLine∧(p==sysModules)=false∧∃vs,KV aw vs∧s.heap.DictOf (aV X.prog X.w) p vs:=I.hok p _ hx
   have hlen:aw.length=vs.length:=Paired.length r
   exact wpAny_truthy_dict hS m (by omega) ⟨H,I.tok _,by rw[v_ r];exact q⟩
 |_=>exact(show False from e).elim
theorem B4(ha:PE X a ta)(he:∀whole,isTrue a X.env whole=(do let v←whole;standAt a.pos;holding [v] (truthy v))):
 PT X a (fun σ H Q=>ta σ H fun x H'=>∃k,HZ X.K x H' k∧Q k H'):=by
 intro pins s σ H Q I h
 exact isTrue_plain (bG (ha pins s σ H _ I h) fun v s1 ⟨x,H1,I1,r1,q1⟩=>HC pins s1 σ H1 x v Q I1 r1 q1) (he _)
theorem vals1{x:V}{us:List Value}(r:Vals [x] us):∃u,us=[u]∧RelV x u:=by
 cases r with
 |cons r1 r2=>cases r2;exact⟨_,rfl,r1⟩
theorem vals2{x y:V}{us:List Value}(r:Vals [x,y] us):∃u w',us=[u,w']∧RelV x u∧RelV y w':=by
 cases r with
 |cons r1 r2=>
  cases r2 with
  |cons r3 r4=>cases r4;exact⟨_,_,rfl,r1,r3⟩
theorem Ai:CallR X (.builtin "abs") (fun xs H Q=>∃i,xs=[.int i]∧Q (.int (if i<0 then -i else i)) H):=by
 intro pins s σ H xs us Q I r h
 obtain⟨i,rfl,q⟩:=h
 obtain⟨u,rfl,t,rfl⟩:=vals1 r
 exact call_abs_int fun u tk=>⟨.int (if i<0 then -i else i),H,I.tok _,⟨_,rfl⟩,q⟩
theorem yK(hc:X.calm=true):CallR X (.builtin "max") (fun xs H Q=>∃i j,xs=[.int i, .int j]∧Q (.int (if j>i then j else i)) H):=by
 intro pins s σ H xs us Q I r h
 obtain⟨i,j,rfl,q⟩:=h
 obtain⟨u,w',rfl,⟨t,rfl⟩,⟨t',rfl⟩⟩:=vals2 r
 refine max_two_ints (I.ok.hd hc) fun h' tk k=>⟨_,H,I.kept k,?_,q⟩
 by_cases hj:j>i
 ·rw[if_pos hj,if_pos hj];exact⟨_,rfl⟩
 ·rw[if_neg hj,if_neg hj];exact⟨_,rfl⟩
theorem yL(hc:X.calm=true):CallR X (.builtin "min") (fun xs H Q=>∃i j,xs=[.int i, .int j]∧Q (.int (if j<i then j else i)) H):=by
 intro pins s σ H xs us Q I r h
 obtain⟨i,j,rfl,q⟩:=h
 obtain⟨u,w',rfl,⟨t,rfl⟩,⟨t',rfl⟩⟩:=vals2 r
 refine min_two_ints (I.ok.hd hc) fun h' tk k=>⟨_,H,I.kept k,?_,q⟩
 by_cases hj:j<i
 ·rw[if_pos hj,if_pos hj];exact⟨_,rfl⟩
 ·rw[if_neg hj,if_neg hj];exact⟨_,rfl⟩
end
structure ObjM (h:Heap) (x dx C:Addr) (mA:Str→Option Value):Prop where
 obj:h.get? x=some (PySem.W.instObj C dx)
 ns:h.Ns1 dx mA
 ne:dx≠x
theorem zj{h:Heap}{dx:Addr}{mA:Str→Option Value}(n:h.Ns1 dx mA):∃od,h.get? dx=some od∧∀name,PySem.W.lookIn name od=some (mA name):=by
 obtain⟨o,es,ep,ho,hd,hk,_,hm⟩:=n
 refine⟨o,ho,fun name=>?_⟩
 have e:=hm name
 unfold nsFind findBy at e
 rw[←Array.find?_toList] at e
 unfold PySem.W.lookIn
 rw[hd]
 dsimp only
 split
 ·rename_i y q
  rw[q] at e
  exact congrArg some e
 ·rename_i q
  rw[q] at e
  have a:es.toList.any (·.refKey)=false:=by
   rw[List.any_eq_false]
   intro y hy
   obtain⟨z,t,y0⟩:=hk y (Array.mem_toList_iff.mp hy)
   simp[DictEntry.refKey,y0]
  have a':¬es.toList.any (·.refKey)=true:=by rw[a];exact Bool.false_ne_true
  rw[if_neg a']
  exact congrArg some e
theorem ObjM.look{h:Heap}{x dx C:Addr}{mA:Str→Option Value}(I:ObjM h x dx C mA):∃od,PySem.W.InstAt h x (PySem.W.instObj C dx) C (some od)∧∀name,PySem.W.lookIn name od=some (mA name):=
 let ⟨od,ho,hl⟩:=zj I.ns
 ⟨od,⟨I.obj,rfl,rfl,ho⟩,hl⟩
section
variable{prog:Program}{w:World}{A:Around}{E:Value→Shared→Prop}{s:Shared}{K:W.Frag}{x dx C f:Addr}{mA:Str→Option Value}{name:Str}{v:Value}
end
section
variable{P:Program}{w:World}{H H':Hp}{h h':Heap}{a C dx:Addr}{fs KJ:List (Str×V)}
theorem DD(hok:HOk P w H h)(e:H a=some (.ins C dx fs)):∃mA,ObjM h a dx C mA∧(∀f,RelO (fs.lookup f) (mA f))∧PySem.Within mA (fs.map (·.1))∧fs.length≤1000∧H dx=some (.own a):=by
 obtain⟨d,z,ne,ob,mA,n,r,q⟩:=(show ObjOk P w H h a (.ins C dx fs) from hok a _ e)
 exact⟨mA,⟨ob,n,ne⟩,r,q,z,d⟩
end
structure Cls (K:W.Frag) (C:Addr):Prop where
 pg:PySem.W.plainGet K C Str.empty=true
 hd:PySem.W.hasDictIn K C=true
 po:PySem.W.plainOver K C=true
 sa:PySem.W.findIn K (.ref C) "__setattr__"=some (some (.builtin "object.__setattr__"))
theorem Cls.get{K:W.Frag}{C:Addr}(c:Cls K C)(f:Str):PySem.W.plainGet K C f=true:=c.pg
structure Con (K:W.Frag) (C:Addr) (f:Str) (v:V) (u:Value):Prop where
 at_:PySem.W.findIn K (.ref C) f=some (some u)
 rel:RelV v u
 get:PySem.W.specialIn K u "__get__"=some none
 cp:PySem.W.copiedNames.contains f=false
structure Meth (K:W.Frag) (C:Addr) (m:Str) (f:Addr):Prop where
 at_:PySem.W.findIn K (.ref C) m=some (some (.ref f))
 fn:PySem.W.isFn K (.ref f)=true
 kp:PySem.W.keepIn K (.ref f)=true
section
variable{X:Cx}{pins:List (Addr×Obj)}{σ:St}{H:Hp}{s:Shared}{a C dx:Addr}{fs:List (Str×V)}{f:Str}{v:V}{A:Around}{E:Value→Shared→Prop}
end
section
variable{X:Cx}{o e value:Expr}{f:Str}{pos pos' Mp:Pos}{ta tv:TE}
end
section
variable{X:Cx}{pins:List (Addr×Obj)}{σ:St}{H:Hp}{s:Shared}{A:Around}{E:Value→Shared→Prop}{Q:Value→Shared→Prop}{c:Value}{b:Bool}
inductive TyOf (K:W.Frag) (H:Hp):V→Value→Prop where
 |non:TyOf K H .non (.type "NoneType")
 |bl (x:Bool):TyOf K H (.bl x) (.type "bool")
 |int (i:Int):TyOf K H (.int i) (.type "int")
 |str (x:Str):TyOf K H (.str x) (.type "str")
 |flt (x:UInt64):TyOf K H (.flt x) (.type "float")
 |lst {a:Addr}{xs:List V}(e:H a=some (.lst xs)):TyOf K H (.ref a) (.type "list")
 |frz {a:Addr}{o:Obj}{xs:List V}(e:H a=some (.frz o (.lst xs))):TyOf K H (.ref a) (.type "list")
 |tup {a:Addr}{xs:List V}(e:H a=some (.tup xs)):TyOf K H (.ref a) (.type "tuple")
 |dK {a:Addr}{aw:List (Key×V)}(e:H a=some (.dK aw)):TyOf K H (.ref a) (.type "dict")
 |dT {a:Addr}{aw:List (List Key×V)}(e:H a=some (.dT aw)):TyOf K H (.ref a) (.type "dict")
 |ins {a C dx:Addr}{fs:List (Str×V)}(e:H a=some (.ins C dx fs)) (cl:Cls K C) (ha:PySem.W.findIn K (.ref C) "__class__"=some (some (.builtin "object.__class__")))
   (hn:PySem.W.specialIn K (.builtin "object.__class__") "__get__"=some (some (.builtin "getset_descriptor.__get__"))) (Nd:PySem.W.takesIn K (.builtin "object.__class__")=some true)
   (hm:PySem.W.mroIn K C (.type "object")=some true):TyOf K H (.ref a) (.ref C)
theorem y_{x:V}{u t:Value}(I:Inv X pins σ H s)(rx:RelV x u)(ty:TyOf X.K H x t)(e:PySem.W.kitOne X.K t c=some b)(h:∀tk,Q (.bool b) {s with toks:=tk}):
 wpAny (model X.prog X.w) A (call (.builtin "isinstance") [u,c]) Q E s:=by
 cases ty with
 |non=>cases (show u=Value.none from rx);exact PySem.W.kia_one PySem.W.kitx_none I.kIn True.intro e (fun z=>nomatch z) h
 |bl y=>cases (show u=Value.bool y from rx);exact PySem.W.kia_one PySem.W.kitx_bool I.kIn True.intro e (fun z=>nomatch z) h
 |int i=>obtain⟨t,q⟩:=(show∃t,u=Value.int i t from rx);cases q;exact PySem.W.kia_one PySem.W.kitx_int I.kIn True.intro e (fun z=>nomatch z) h
 |str y=>obtain⟨t,q⟩:=(show∃t,u=Value.str y t from rx);cases q;exact PySem.W.kia_one PySem.W.kitx_str I.kIn True.intro e (fun z=>nomatch z) h
 |flt y=>obtain⟨t,q⟩:=(show∃t,u=Value.float y t from rx);cases q;exact PySem.W.kia_one PySem.W.kitx_float I.kIn True.intro e (fun z=>nomatch z) h
 | @lst a xs ea=>
   cases (show u=Value.ref a from rx)
   obtain⟨_,_,n,_,h1⟩:=(show ObjOk X.prog X.w H s.heap a (.lst xs) from I.hok a _ ea)
   exact PySem.W.kia_one PySem.W.kitx_list I.kIn ⟨_,h1,rfl⟩ e (fun z=>nomatch z) h
 | @frz a ob xs ea=>
   cases (show u=Value.ref a from rx)
   obtain⟨_,_,_,n,_,h1⟩:=(show ObjOk X.prog X.w H s.heap a (.frz ob (.lst xs)) from I.hok a _ ea)
   exact PySem.W.kia_one PySem.W.kitx_list I.kIn ⟨_,h1,rfl⟩ e (fun z=>nomatch z) h
 | @tup a xs ea=>
   cases (show u=Value.ref a from rx)
   obtain⟨_,_,_,p⟩:=(show ObjOk X.prog X.w H s.heap a (.tup xs) from I.hok a _ ea)
   obtain⟨o,h1,h2,_⟩:=p
   exact PySem.W.kia_one PySem.W.kitx_tuple I.kIn ⟨o,h1,h2⟩ e (fun z=>nomatch z) h
 | @dK a aw ea=>
   cases (show u=Value.ref a from rx)
   obtain⟨_,_,vs,_,p⟩:=(show ObjOk X.prog X.w H s.heap a (.dK aw) from I.hok a _ ea)
   obtain⟨o,es,ep,h1,h2,_⟩:=p
   exact PySem.W.kia_one PySem.W.kitx_dict I.kIn ⟨o,h1,h2.1⟩ e (fun z=>nomatch z) h
 | @dT a aw ea=>
   cases (show u=Value.ref a from rx)
   obtain⟨_,_,xs,_,o,es,ep,h1,h2,_⟩:=(show ObjOk X.prog X.w H s.heap a (.dT aw) from I.hok a _ ea)
   exact PySem.W.kia_one PySem.W.kitx_dict I.kIn ⟨o,h1,h2.1⟩ e (fun z=>nomatch z) h
 | @ins a C dx fs ea cl ha hn Nd hm=>
   cases (show u=Value.ref a from rx)
   obtain⟨mA,O,_⟩:=DD I.hok ea
   obtain⟨od,J,_⟩:=O.look
   exact PySem.W.kia_one (PySem.W.kitx_own (cl.get _) cl.hd ha hn Nd hm) I.kIn J e (fun z=>nomatch z) h
end
structure Room (k:Nat) (A:Around):Prop where
 hd:A.handled=none
 dp:A.depth+3*k+5<recursionLimit
 un:A.units+16*k+200<cLine
theorem Room.mono{j k:Nat}{A:Around}(r:Room k A)(h:j≤k):Room j A:=⟨r.hd,by have:=r.dp;omega,by have:=r.un;omega⟩
theorem Room.deeper{k:Nat}{A:Around}(r:Room (k+1) A)(env:Env):Room k (A.deeper env):=
 ⟨r.hd,by have:=r.dp;show A.depth+1+3*k+5<_;omega,by have:=r.un;show A.units+3+16*k+200<_;omega⟩
theorem Room.depth{k:Nat}{A:Around}(r:Room k A):A.depth<recursionLimit:=by have:=r.dp;omega
theorem Room.units{k:Nat}{A:Around}(r:Room k A):A.units+64<cLine:=by have:=r.un;omega
def Hy:TA:=fun _ H Q=>Q [] H
def CG(ta:TE)(tr:TA):TA:=fun σ H Q=>ta σ H fun x H1=>tr σ H1 fun xs H2=>Q (x::xs) H2
section
variable{X:Cx}{e:Expr}{es:List Expr}{te:TE}{t:TA}{pos:Pos}
theorem sC:PA X [] Hy:=fun _ _ _ _ H Q I h=>Calls.spliced_nil ⟨[],H,I, .nil,h⟩
theorem sA(ha:PE X e te)(hr:PA X es t)(hs:starEach (e::es) X.env=(false,eval e X.env)::starEach es X.env:=by rfl):PA X (e::es) (CG te t):=by
 intro pos pins s σ H Q I h
 rw[hs]
 show wpAny _ _ (spliced ((false,eval e X.env)::backTo pos (starEach es X.env))) _ _ s
 refine Calls.spliced_cons (bG (ha pins s σ H _ I h) fun u s1 ⟨x,H1,I1,r1,q1⟩=>?_)
 exact bG (hr pos pins s1 σ H1 _ I1 q1) fun us s2 ⟨xs,H2,I2,r2,q2⟩=>⟨x::xs,H2,I2, .cons r1 r2,q2⟩
def Mo(t:TA):TE:=fun σ H Q=>t σ H fun xs H1=>xs.length≤sizeLine∧∀p,H1 p=none→Q (.ref p) (upd H1 p (.tup xs))
def Mj(t:TA):TE:=fun σ H Q=>t σ H fun xs H1=>xs.length≤sizeLine∧∀p,H1 p=none→Q (.ref p) (upd H1 p (.lst xs))
theorem G5{x1}(h:PA X es t):PE X (.Tuple es x1 pos) (Mo t):=by
 intro pins s σ H Q I hq
 refine wpAny_Tuple_spliced (bG (h pos pins s σ H _ I hq) fun us s1 ⟨xs,H1,I1,r,z,q⟩=>⟨by rw[←r.length];exact z,?_⟩)
 have hf:H1 s1.heap.objs.size=none:=I1.hok.fresh (Nat.le_refl _)
 refine⟨.ref s1.heap.objs.size,upd H1 s1.heap.objs.size (.tup xs),I1.laid (t':=s1.toks) (fun b u e=>Heap.get?_push_of_some _ e) (Nat.le_refl _) ?_,rfl,q _ hf⟩
 exact⟨z,us,r,⟨_,Heap.get?_push_size _ rfl,rfl,_,rfl⟩⟩
theorem BV(h:PA X es t):PE X (.List es pos) (Mj t):=by
 intro pins s σ H Q I hq
 refine wpAny_List_spliced (bG (h pos pins s σ H _ I hq) fun us s1 ⟨xs,H1,I1,r,z,q⟩=>⟨by rw[←r.length];exact z,?_⟩)
 have hf:H1 s1.heap.objs.size=none:=I1.hok.fresh (Nat.le_refl _)
 refine⟨.ref s1.heap.objs.size,upd H1 s1.heap.objs.size (.lst xs),I1.laid (t':=s1.toks) (fun b u e=>Heap.get?_push_of_some _ e) (Nat.le_refl _) ?_,rfl,q _ hf⟩
 exact⟨z,us,0,r,Heap.get?_push_size _ rfl⟩
end
abbrev Sp:=List V→Hp→VK→XK→Prop
abbrev vH:=List Env→Hp→Shared→XK→Value→Shared→Prop
structure Env0 (P:Program) (w:World) (K:W.Frag) (mg:Str→Option Value) (base:Heap) (A:Around) (outer:List Env) (s:Shared) (H:Hp):Prop where
 frames:A.frames=some outer
 mod:Mod K mg base
 bs:∀b o,base.get? b=some o→s.heap.get? b=some o∧H b=none
 bsz:base.objs.size≤s.heap.objs.size
 funs:s.heap.FunFrames base outer
 frf:∀b∈mN outer,H b=none
 hok:HOk P w H s.heap
 bare:AllBare s.gens
def CE(outer:List Env)(P:Program)(w:World)(H:Hp)(s:Shared)(Q:VK)(u:Value)(s':Shared):Prop:=
 ∃v H',s'.os=s.os∧AllBare s'.gens∧Un (mN outer) [] H H' s.heap s'.heap∧HOk P w H' s'.heap∧RelV v u∧Q v H'
def CR(CX:vH)(outer:List Env)(P:Program)(w:World)(H:Hp)(s:Shared)(Q:VK)(E:XK)(r:Result)(s':Shared):Prop:=
 match r with
 | .ok (.ret u)=>CE outer P w H s Q u s'
 | .ok _=>False
 | .error e=>CX outer H s E e s'
structure FnOk (P:Program) (w:World) (K:W.Frag) (mg:Str→Option Value) (base:Heap) (CX:vH) (k:Nat) (f:Addr) (fd:FuncData) (ps:List Str) (sp:Sp):Prop where
 len:∀vs H Q E,sp vs H Q E→vs.length=ps.length
 run:∀(A:Around) (outer:List Env) (s:Shared) (H:Hp) (args:Args) (us:List Value) (vs:List V) (Q:VK) (E:XK),Room k A→Env0 P w K mg base A outer s H→BindsTo s fd args (ps.zip us)→Vals vs us→sp vs H Q E→
  codeAny (model P w) A (.call (.ref f) args) (CR CX outer P w H s Q E) s
theorem FnOk.mono{P:Program}{w:World}{K:W.Frag}{mg:Str→Option Value}{base:Heap}{CX:vH}{j k:Nat}{f:Addr}{fd:FuncData}{ps:List Str}{sp:Sp}(F:FnOk P w K mg base CX j f fd ps sp)(h:j≤k):
 FnOk P w K mg base CX k f fd ps sp:=⟨F.len,fun A outer s H args us vs Q E hr=>F.run A outer s H args us vs Q E (hr.mono h)⟩
section
variable{X:Cx}{pins:List (Addr×Obj)}{σ:St}{H:Hp}{s s':Shared}
theorem Inv.env0(I:Inv X pins σ H s):Env0 X.prog X.w X.K X.mg X.base X.A X.stack s H:=
 ⟨I.ok.frames,I.ok.mod,I.bs,Nat.le_trans I.ok.bsz I.sz,I.stack,I.stkFree,I.hok,I.bare⟩
theorem Inv.after{Q:VK}{u:Value}(I:Inv X pins σ H s)(h:CE X.stack X.prog X.w H s Q u s'):EP X pins σ Q u s':=by
 obtain⟨v,H',os,bare,un,hok,r,q⟩:=h
 obtain⟨hh,g,d,t,L4⟩:=s'
 obtain rfl:L4=s.os:=os
 exact⟨v,H',I.call (h':=hh) (g':=g) (d':=d) (t':=t) (ch:=[]) un hok bare (fun b z=>absurd z (by simp)),r,q⟩
end
def JU(sp:Sp)(ET:List V)(E:XK)(t:TA):TE:=fun σ H Q=>t σ H fun vs H1=>sp (vs++ET) H1 Q E
def Binds(K:W.Frag)(fd:FuncData)(ps:List Str)(ds:List Value):Prop:=
 ∀(s:Shared) (us:List Value),K.In s.heap→(us++ds).length=ps.length→BindsTo s fd ⟨us,[]⟩ (ps.zip (us++ds))
theorem Binds.all{K:W.Frag}{fd:FuncData}{ps:List Str}(h:∀us:List Value,us.length=ps.length→bindArgs fd ⟨us,[]⟩=pure (ps.zip us)):Binds K fd ps []:=fun s us _ hl=>by
 rw[List.append_nil] at hl⊢
 exact .of_eq (h us hl)
def Passes(CX:vH)(X:Cx)(E:XK):Prop:=∀(pins:List (Addr×Obj)) (σ:St) (H:Hp) (s:Shared) (e:Value) (s':Shared),Inv X pins σ H s→CX X.stack H s E e s'→X.xe e s'
section
variable{X:Cx}{CX:vH}{k:Nat}{f C:Addr}{fd:FuncData}{ps:List Str}{sp:Sp}{ET:List V}{ds:List Value}{E:XK}{x m:Str}{p pos apos:Pos}{e o:Expr}{es:List Expr}{ta:TE}{t:TA}
theorem Hh{pins:List (Addr×Obj)}{σ:St}{H:Hp}{s:Shared}{Q:VK}{us:List Value}{vs:List V}(F:FnOk X.prog X.w X.K X.mg X.base CX k f fd ps sp)(hr:Room k X.A)(hb:Binds X.K fd ps ds)(hd:Vals ET ds)(hx:Passes CX X E)
 (I:Inv X pins σ H s)(r:Vals vs us)(h:sp (vs++ET) H Q E):wpAny (model X.prog X.w) X.A (call (.ref f) us) (EP X pins σ Q) X.xe s:=by
 have r2:Vals (vs++ET) (us++ds):=r.append hd
 have hl:(us++ds).length=ps.length:=by rw[←r2.length];exact F.len _ _ _ _ h
 refine wpAny_call (codeAny_mono (F.run X.A X.stack s H ⟨us,[]⟩ (us++ds) (vs++ET) Q E hr I.env0 (hb s us I.kIn hl) r2 h) fun r s' hq=>?_)
 cases r with
 |error e=>exact hx pins σ H s e s' I hq
 |ok fl=>
  cases fl with
  |ret u=>exact I.after hq
  |next=>exact False.elim hq
  |brk=>exact False.elim hq
  |cont=>exact False.elim hq
theorem Ec(F:FnOk X.prog X.w X.K X.mg X.base CX k f fd ps sp)(hr:Room k X.A)(hg:Gl X x)(hm:X.mg x=some (.ref f))(hk:PySem.W.keepIn X.K (.ref f)=true)(hb:Binds X.K fd ps ds)(hd:Vals ET ds)(hx:Passes CX X E)
 (ha:PA X (e::es) t)(rT:(x==("__debug__":Str))=false:=by decide)(he:starEach (e::es) X.env=(false,eval e X.env)::starEach es X.env:=by rfl)(mD:(backTo pos (starEach es X.env)).any (·.1)=false:=by rfl):
 PE X (.Call (.Name x p) (e::es) [] pos) (JU sp ET E t):=by
 intro pins s σ H Q I h
 refine wpAny_Call_Name_kw (ya I hg hm ?_ rT)
 refine PySem.W.callWith_K (h₀:=X.base) I.ok.mod.kin hk (bG (ha pos pins s σ H _ I h) fun us s1 ⟨vs,H1,I1,r,q⟩=>⟨I1.kIn,?_⟩) he mD
 exact Hh F hr hb hd hx I1 r q
structure Mk (K:W.Frag) (C f:Addr):Prop where
 makes:PySem.W.makesIn K C=true
 init:PySem.W.findIn K (.ref C) "__init__"=some (some (.ref f))
 fn:PySem.W.isFn K (.ref f)=true
 kp:PySem.W.keepIn K (.ref C)=true
end
section
variable{X:Cx}{CX:vH}{k:Nat}{f C:Addr}{fd:FuncData}{ps ks:List Str}{sp:Sp}{E:XK}{x m:Str}{p pos apos Pb:Pos}{e o:Expr}{es:List Expr}{Qf:List Keyword}{te ta:TE}{t tk:TA}{nm:Option Str}
structure KBinds (K:W.Frag) (fd:FuncData) (ps ks:List Str) (g:List Value→List Value→List Value) (gV:List V→List V→List V):Prop where
 to:∀(s:Shared) (us ws:List Value),K.In s.heap→(g us ws).length=ps.length→BindsTo s fd ⟨us,ks.zip ws⟩ (ps.zip (g us ws))
 rel:∀{vs:List V}{us:List Value}{zs:List V}{ws:List Value},Vals vs us→Vals zs ws→Vals (gV vs zs) (g us ws)
variable{g:List Value→List Value→List Value}{gV:List V→List V→List V}
end
structure FnScope (N P:List Str) (sc:Scope):Prop where
 kind:sc.kind= .function
 co:sc.isCoroutine=false
 gen:sc.isGenerator=false
 nd:N.Nodup
 pre:N.take P.length=P
 par:∀x∈P,sc.names.lookup x=some .local∨sc.names.lookup x=some .cell
 nofree:∀y∈sc.names,y.2≠ .free
theorem p7{kindOf:Str→Option NameKind}{x:Str}:∀{binds:List (Str×Value)}{m:Str→Option Value},(∀v,(x,v)∉binds)→bindL kindOf binds m x=m x
 |[],_,_=>rfl
 |(n,v)::r,m,h=>by
  unfold bindL
  rw[p7 fun w hw=>h w (List.mem_cons_of_mem _ hw)]
  split
  ·have:x≠n:=by rintro rfl;exact h v List.mem_cons_self
   simp[this]
  ·rfl
theorem p5{kindOf:Str→Option NameKind}{x:Str}:∀{binds:List (Str×Value)}{m:Str→Option Value},(∀v,(x,v)∉binds)→bindC kindOf binds m x=m x
 |[],_,_=>rfl
 |(n,v)::r,m,h=>by
  unfold bindC
  rw[p5 fun w hw=>h w (List.mem_cons_of_mem _ hw)]
  split
  ·rfl
  ·have:x≠n:=by rintro rfl;exact h v List.mem_cons_self
   simp[this]
theorem p6{kindOf:Str→Option NameKind}{x:Str}{v:Value}:∀{P:List Str}{vs:List Value}{i:Nat}{m:Str→Option Value},P.Nodup→P[i]? =some x→vs[i]? =some v→kindOf x=some .local→
 bindL kindOf (P.zip vs) m x=some v
 |[],_,_,_,_,h,_,_=>by simp at h
 |_::_,[],_,_,_,_,h,_=>by simp at h
 |p::P,w::vs,0,m,nd,h1,h2,hk=>by
  simp at h1 h2;subst h1;subst h2
  show bindL kindOf ((p,w)::P.zip vs) m p=_
  unfold bindL
  rw[p7 fun v hv=>(List.nodup_cons.mp nd).1 (List.of_mem_zip hv).1,if_pos hk]
  simp
 |p::P,w::vs,i+1,m,nd,h1,h2,hk=>by
  show bindL kindOf ((p,w)::P.zip vs) m x=_
  unfold bindL
  exact p6 (i:=i) (List.nodup_cons.mp nd).2 (by simpa using h1) (by simpa using h2) hk
theorem p4{kindOf:Str→Option NameKind}{x:Str}{v:Value}:∀{P:List Str}{vs:List Value}{i:Nat}{m:Str→Option Value},P.Nodup→P[i]? =some x→vs[i]? =some v→kindOf x≠some .local→
 bindC kindOf (P.zip vs) m x=some v
 |[],_,_,_,_,h,_,_=>by simp at h
 |_::_,[],_,_,_,_,h,_=>by simp at h
 |p::P,w::vs,0,m,nd,h1,h2,hk=>by
  simp at h1 h2;subst h1;subst h2
  show bindC kindOf ((p,w)::P.zip vs) m p=_
  unfold bindC
  rw[p5 fun v hv=>(List.nodup_cons.mp nd).1 (List.of_mem_zip hv).1,if_neg hk]
  simp
 |p::P,w::vs,i+1,m,nd,h1,h2,hk=>by
  show bindC kindOf ((p,w)::P.zip vs) m x=_
  unfold bindC
  exact p4 (i:=i) (List.nodup_cons.mp nd).2 (by simpa using h1) (by simpa using h2) hk
def start(N:List Str)(vs:List V):St:=vs.map some++List.replicate (N.length - vs.length) none
def cT(CX:vH)(P:Program)(w:World)(K:W.Frag)(mg:Str→Option Value)(base:Heap)(N:List Str)(qual:Str)(scope:Scope)(f:Addr)(cd:Value)(A:Around)(outer:List Env)(s:Shared)(H:Hp)(E:XK):Cx where
 prog:=P
 w:=w
 K:=K
 mg:=mg
 base:=base
 A:=A.deeper (envOfC qual scope s.heap.objs.size f cd)
 N:=N
 s₀:=s
 H₀:=H
 env:=envOfC qual scope s.heap.objs.size f cd
 outer:=outer
 stack:=envOfC qual scope s.heap.objs.size f cd::outer
 ex:=[]
 calm:=true
 fn:=fun _=>true
 pn:=[]
 xe:=fun e s'=>wpAny (model P w) (A.deeper (envOfC qual scope s.heap.objs.size f cd)) (leaving (envOfC qual scope s.heap.objs.size f cd) e) (fun _ JN=>CX outer H s E e JN) (fun e' JN=>CX outer H s E e' JN) s'
theorem tT{sc:Scope}{n:Nat}{x:Str}(h:sc.names.lookup x=some .cell):∃c,(cellsFrom n sc.names []).lookup x=some c:=by
 have q:=PySem.W.cellsFrom_some sc.names n [] (.inl h)
 exact Option.isSome_iff_exists.mp q
theorem y7{CX:vH}{P:Program}{w:World}{K:W.Frag}{mg:Str→Option Value}{base:Heap}{N ps:List Str}{qual:Str}{scope:Scope}{f:Addr}{cd:Value}{A:Around}{outer:List Env}{s s1:Shared}{H:Hp}{E:XK}{us:List Value}{vs:List V}
 (S:FnScope N ps scope)(hd:A.handled=none)(e0:Env0 P w K mg base A outer s H)(hl:vs.length=ps.length)(r:Vals vs us)
 (x:InCallC s s.heap.objs.size (bindL (envOfC qual scope s.heap.objs.size f cd).kindOf (ps.zip us) fun _=>none) (cellsFrom (s.heap.objs.size+1) scope.names []) (bindC (envOfC qual scope s.heap.objs.size f cd).kindOf (ps.zip us) fun _=>none) s1):
 Inv (cT CX P w K mg base N qual scope f cd A outer s H E) [] (start N vs) H s1:=by
 have mD:ps.length≤N.length:=by have:=congrArg List.length S.pre;rw[List.length_take] at this;omega
 obtain⟨h1,tk,rfl,hk⟩:=x.done
 have Jk:∀b:Addr,b∉(cT CX P w K mg base N qual scope f cd A outer s H E).ex:=fun b z=>absurd (show b∈([]:List Addr) from z) (by simp)
 refine⟨⟨e0.mod,S.kind,rfl,rfl,Nat.le_refl _,fun y z c h1 h2=>?_,fun y hy=>?_,fun y c _ h=>?_,fun _=>hd,Around.frames_deeper e0.frames, .inr ⟨rfl,rfl⟩,fun b z=>absurd z (Jk b),e0.bs,e0.bsz,fun b _ _=>Jk b,fun b z=>absurd z (Jk b),e0.funs,e0.frf⟩,
  rfl,e0.bare,Un.kept hk,⟨_,x.toInCall.ns,fun i y v h1 h2 h3=>?_⟩,fun y c h=>⟨_,x.cell y c h⟩,e0.hok.fresh (Nat.le_refl _),fun y c h=>?_,fun p hp=>absurd (show p∈([]:List (Addr×Obj)) from hp) (by simp),e0.hok.kept hk,?_⟩
 ·exact name_of_addr x.apart (PySem.mem_of_lookup h1) (PySem.mem_of_lookup h2)
 ·have hy:scope.names.lookup y=some .cell∨scope.names.lookup y=some .free:=hy
  rcases hy with hy | hy
  ·exact tT hy
  ·exact absurd rfl (S.nofree _ (PySem.mem_of_lookup hy))
 ·exact Nat.le_of_lt (x.above y c (PySem.mem_of_lookup h))
 ·have hi:i<vs.length:=by
   unfold start at h2
   by_cases hi:i<vs.length
   ·exact hi
   ·rw[List.getElem?_append_right (by simpa using hi)] at h2
    rw[List.getElem?_replicate] at h2
    split at h2<;>cases h2
  have ha:vs[i]? =some v:=by
   unfold start at h2
   rw[List.getElem?_append_left (by simpa using hi),List.getElem?_map] at h2
   cases e:vs[i]? with
   |none=>rw[e] at h2;cases h2
   |some a=>rw[e] at h2;cases h2;rfl
  obtain⟨u,hu,rv⟩:=r.get ha
  have hp:ps[i]? =some y:=by
   rw[←S.pre,List.getElem?_take_of_lt (by omega)];exact h1
  have Np:ps.Nodup:=by rw[←S.pre];exact S.nd.sublist (List.take_sublist _ _)
  refine⟨u,rv,?_⟩
  rcases S.par y (List.mem_of_getElem? hp) with k | k
  ·exact .inl ⟨k,p6 Np hp hu k⟩
  ·obtain⟨c,e⟩:=tT (n:=s.heap.objs.size+1) k
   refine .inr ⟨.inl k,c,e,?_⟩
   have q:=x.cell y c e
   rw[p4 Np hp hu (by show scope.names.lookup y≠_;rw[k];decide)] at q
   exact q
 ·exact e0.hok.fresh (Nat.le_of_lt (x.above y c (PySem.mem_of_lookup h)))
 ·unfold start
  show _=N.length
  rw[List.length_append,List.length_map,List.length_replicate]
  omega
theorem Io{CX:vH}{P:Program}{w:World}{K:W.Frag}{mg:Str→Option Value}{base:Heap}{k:Nat}{f:Addr}{name qual:Str}{params:Arguments}{body:List Stmt}{scope:Scope}{dV kV doc pm bg ct oc:Value}{an od:Option Addr}
 {Fd:Array (Option Value)}{N ps:List Str}{sp:Sp}(lk:K.lookup f=some ⟨oc,od, .func (PySem.W.fnOf name qual params body scope dV kV doc pm an bg ct),Fd⟩)(xN:PySem.W.codeIn K bg qual=true)(S:FnScope N ps scope)
 (len:∀vs H Q E,sp vs H Q E→vs.length=ps.length)
 (uq:∀(A:Around) (outer:List Env) (s:Shared) (H:Hp) (vs:List V) (Q:VK) (E:XK),Room k (A.deeper (envOfC qual scope s.heap.objs.size f bg))→sp vs H Q E→
  ∃t,PSs (cT CX P w K mg base N qual scope f bg A outer s H E) body t∧t {nx:=fun _ H'=>Q .non H',rt:=Q} (start N vs) H):
 FnOk P w K mg base CX (k+1) f (PySem.W.fnOf name qual params body scope dV kV doc pm an bg ct) ps sp:=by
 refine⟨len,fun A outer s H args us vs Q E hr e0 hb r E8=>?_⟩
 have hl:=len _ _ _ _ E8
 have KX:K.In s.heap:=e0.mod.kin.keeps fun b o e=>(e0.bs b o e).1
 have lim:s.heap.NoLimit:=e0.mod.nolimit.keeps fun b o e=>(e0.bs b o e).1
 have IL:∀y∈ps.zip us,scope.names.lookup y.1=some .local∨(scope.names.lookup y.1=some .cell∧((cellsFrom (s.heap.objs.size+1) scope.names []).lookup y.1).isSome=true):=fun⟨n,v⟩ hy=>by
  rcases S.par n (List.of_mem_zip hy).1 with q | q
  ·exact .inl q
  ·exact .inr ⟨q,PySem.W.cellsFrom_some _ _ _ (.inl q)⟩
 refine codeAny_call_function hr.depth (KX _ _ lk) rfl S.co S.gen rfl (PySem.W.codeRec_of KX xN) (hb _ _ _ _ ?_)
 refine wpAny_newFunctionEnv_cells S.kind IL fun env he s1 x=>?_
 subst he
 refine⟨lim.keeps x.toInCall.keep,codeAny_func ?_⟩
 obtain⟨t,ht,hq⟩:=uq A outer s H vs Q E (hr.deeper _) E8
 have I:Inv (cT CX P w K mg base N qual scope f bg A outer s H E) [] (start N vs) H s1:=y7 S hr.hd e0 hl r x
 refine wpAny_mono (ht [] s1 (start N vs) H _ I hq) (fun fl s' hs=>?_) fun e s' hs=>hs
 have fin:∀{σ':St}{H':Hp}{v:V}{u:Value},Inv (cT CX P w K mg base N qual scope f bg A outer s H E) [] σ' H' s'→RelV v u→Q v H'→CE outer P w H s Q u s':=
  fun {σ' H' v u} J rv q=>⟨v,H',J.os,J.bare,J.base,J.hok,rv,q⟩
 cases fl with
 |ret u=>
  obtain⟨v,σ',H',J,rv,q⟩:=hs
  exact fin J rv q
 |next=>
  obtain⟨σ',H',J,q⟩:=hs
  exact fin (v:=V.non) (u:=Value.none) J rfl q
 |brk=>
  obtain⟨_,_,_,q⟩:=hs
  exact False.elim q
 |cont=>
  obtain⟨_,_,_,q⟩:=hs
  exact False.elim q
section
variable{X:Cx}{x:Str}{p pos:Pos}{e:Expr}{es:List Expr}{t:TA}{id T:String}{r:List V→Hp→VK→Prop}
def Me(r:List V→Hp→VK→Prop)(t:TA):TE:=fun σ H Q=>t σ H fun vs H1=>r vs H1 Q
theorem BO(hc:CallR X (.builtin id) r)(hg:Gl X x)(hm:X.mg x=none)(hv:bootBuiltins x=some (.builtin id))(ha:PA X (e::es) t)(hn:x≠"__name__":=by decide)(rT:(x==("__debug__":Str))=false:=by decide)
 (he:starEach (e::es) X.env=(false,eval e X.env)::starEach es X.env:=by rfl)(mD:(backTo pos (starEach es X.env)).any (·.1)=false:=by rfl):PE X (.Call (.Name x p) (e::es) [] pos) (Me r t):=by
 intro pins s σ H Q I h
 refine wpAny_Call_Name_kw (je I hg hm hv ?_ hn rT)
 exact PyProof.Rows.callWith_builtin1 (bG (ha pos pins s σ H _ I h) fun us s1 ⟨vs,H1,I1,r1,q1⟩=>hc pins s1 σ H1 vs us Q I1 r1 q1) he mD
theorem zH(hc:CallR X (.type T) r)(hg:Gl X x)(hm:X.mg x=none)(hv:bootBuiltins x=some (.type T))(ha:PA X (e::es) t)(hn:x≠"__name__":=by decide)(rT:(x==("__debug__":Str))=false:=by decide)
 (he:starEach (e::es) X.env=(false,eval e X.env)::starEach es X.env:=by rfl)(mD:(backTo pos (starEach es X.env)).any (·.1)=false:=by rfl):PE X (.Call (.Name x p) (e::es) [] pos) (Me r t):=by
 intro pins s σ H Q I h
 refine wpAny_Call_Name_kw (je I hg hm hv ?_ hn rT)
 exact PyProof.Rows.callWith_type1 (bG (ha pos pins s σ H _ I h) fun us s1 ⟨vs,H1,I1,r1,q1⟩=>hc pins s1 σ H1 vs us Q I1 r1 q1) he mD
end
end L2
namespace HT
open PySem PyProof.Rows
section
open PySem.SeqAt
open PySem.AutoSeq1 (wpAny_loadPart')
open PySem.MeetsSeq PySem.MeetsSeq2 PySem.MeetsSeq3
end
section
variable{prog:Program}{w:World}{A:Around}{E:Value→Shared→Prop}{s:Shared}
theorem cat_tup{t b:Addr}{vs ws:List Value}{Q:Value→Shared→Prop}(ht:IsTup s.heap t vs.toArray)(hb:IsTup s.heap b ws.toArray)(hv:vs≠[])
 (h1:ws=[]→Q (.ref t) s)(h2:ws≠[]→Q (.ref s.heap.objs.size) {s with heap:=s.heap.push {cls:= .type "tuple",data:= .seq (vs++ws).toArray} })
 (hsz:vs.length+ws.length≤sizeLine):wpAny (model prog w) A (binaryOp .Add (.ref t) (.ref b)) Q E s:=by
 obtain⟨⟨cls,dd,data,sl⟩,ho,hc,n,hd⟩:=id ht
 obtain⟨⟨KH,De,data2,Ko⟩,Gb,FT,n2,hd2⟩:=id hb
 simp only at hc hd FT hd2
 subst hc hd FT hd2
 have e:vs.toArray++ws.toArray=(vs++ws).toArray:=by simp
 by_cases hw:ws=[]
 ·exact concat_meets ⟨_,ho,rfl⟩ ⟨_,Gb,rfl⟩ noFill_tuple_add seq_tuple_add PySem.F.slot_tuple_add PySem.F.entry_tuple_add (PySem.F.args_tuple_add_2 _ _)
   (tuple_addW1 t b vs.toArray ws.toArray n n2 dd De sl Ko (by simpa using hv) (by simp[hw])) ⟨ho,Gb,h1 hw⟩
 ·refine concat_meets ⟨_,ho,rfl⟩ ⟨_,Gb,rfl⟩ noFill_tuple_add seq_tuple_add PySem.F.slot_tuple_add PySem.F.entry_tuple_add (PySem.F.args_tuple_add_2 _ _)
   (tuple_addW2 t b vs.toArray ws.toArray n n2 dd De sl Ko (by simpa using hv) (by simpa using hw) (by rw[List.size_toArray,List.size_toArray];exact hsz)) ⟨ho,Gb,?_⟩
  rw[e]
  exact h2 hw
def sIx(n d:Nat):Option Int→Nat
 |none=>d
 |some v=>if v<0 then(v+(n:Int)).toNat else min v.toNat n
theorem sIx_nat(n d k:Nat):sIx n d (some (k:Int))=min k n:=by
 show (if (k:Int)<0 then((k:Int)+(n:Int)).toNat else min (k:Int).toNat n)=min k n
 rw[if_neg (by omega),Int.toNat_natCast]
theorem sIx_le(n d:Nat)(hd:d≤n)(o:Option Int):sIx n d o≤n:=by
 cases o with
 |none=>exact hd
 |some v=>
  show (if v<0 then(v+(n:Int)).toNat else min v.toNat n)≤n
  by_cases hv:v<0
  ·rw[if_pos hv];omega
  ·rw[if_neg hv];exact Nat.min_le_right _ _
theorem clip_eq(v:Int)(n d:Nat):(if v<0 then max (v+(n:Int)) 0 else min v (n:Int))=((sIx n d (some v):Nat):Int):=by
 show (if v<0 then max (v+(n:Int)) 0 else min v (n:Int))=(((if v<0 then(v+(n:Int)).toNat else min v.toNat n):Nat):Int)
 by_cases hv:v<0
 ·simp only[if_pos hv];omega
 ·simp only[if_neg hv];omega
theorem adjust_gen(lo hi:Option Int)(n:Nat):Builtin.Slice.sliceAdjust lo hi 1 (n:Int)=(((sIx n 0 lo:Nat):Int),((sIx n n hi:Nat):Int)):=by
 have h1:¬((1:Int)<0):=by omega
 unfold Builtin.Slice.sliceAdjust
 simp only[h1,if_false]
 refine Prod.ext ?_ ?_
 ·cases lo with
  |none=>rfl
  |some v=>exact clip_eq v n 0
 ·cases hi with
  |none=>rfl
  |some v=>exact clip_eq v n n
theorem places_gen(i j:Nat):Builtin.Slice.slicePlaces (i:Int) (j:Int) 1=j - i:=by
 unfold Builtin.Slice.slicePlaces
 have h1:(1:Int)>0:=by omega
 simp only[h1,if_true,Int.ediv_one]
 split<;>omega
theorem slicePart_{v:Value}{o:Option Int}{Q:Option Int→Shared→Prop}(p:IsPart v o)(h:Q o s):wpAny (model prog w) A (Builtin.Slice.slicePartIndex v) Q E s:=by
 cases p with
 |none=>exact slicePart_none h
 |int i t=>exact slicePart_int h
theorem sliceApplied_gen{sl:Addr}{vl vu:Value}{lo hi:Option Int}{n:Nat}{Q:Int×Int×Nat→Shared→Prop}(hs:s.heap.IsSliceOf sl vl vu .none)(pl:IsPart vl lo)(pu:IsPart vu hi)
 (h:Q (((sIx n 0 lo:Nat):Int),1,sIx n n hi - sIx n 0 lo) s):wpAny (model prog w) A (Builtin.Slice.sliceApplied (.ref sl) (pure (n:Int))) Q E s:=by
 obtain⟨os,uu,FU,yX⟩:=id hs
 unfold Builtin.Slice.sliceApplied Builtin.Slice.sliceFields
 refine wpAny_bind (wpAny_bind (wpAny_field uu yX (x:=vl) rfl (wpAny_bind (wpAny_field uu yX (x:=vu) rfl (wpAny_bind (wpAny_field uu yX (x:= .none) rfl (wpAny_pure ?_)))))))
 refine wpAny_bind (slicePart_none ?_)
 show wpAny _ _ (if ((1:Int)==0)=true then _ else _) _ _ s
 rw[if_neg (by decide)]
 refine wpAny_bind (slicePart_ pl (wpAny_bind (slicePart_ pu (wpAny_bind (wpAny_pure ?_)))))
 show wpAny _ _ (match Builtin.Slice.sliceAdjust lo hi 1 (n:Int) with | (lo,hi)=>pure (lo,(1:Int),Builtin.Slice.slicePlaces lo hi 1)) _ _ s
 rw[adjust_gen lo hi n]
 show wpAny _ _ (pure (((sIx n 0 lo:Nat):Int),(1:Int),Builtin.Slice.slicePlaces ((sIx n 0 lo:Nat):Int) ((sIx n n hi:Nat):Int) 1)) _ _ s
 rw[places_gen]
 exact wpAny_pure h
theorem pick_gen(xs:Array Value)(i k:Nat):((List.range k).filterMap fun(m:Nat)=>xs[((i:Int)+(m:Int)*1).toNat]?).toArray=((xs.toList.drop i).take k).toArray:=by
 have e:(fun (m:Nat)=>xs[((i:Int)+(m:Int)*1).toNat]?)=fun m=>xs[i+m]? :=by
  funext m
  have:((i:Int)+(m:Int)*1).toNat=i+m:=by omega
  rw[this]
 rw[e]
 have:=pick_run xs i k
 rw[List.filterMap_map] at this
 have e2:((fun x=>xs[x]?)∘fun x=>i+x)=fun m=>xs[i+m]? :=rfl
 rw[e2] at this
 rw[this]
theorem getItem_tuple_cut{t sl:Addr}{items:Array Value}{vl vu:Value}{lo hi:Option Int}{Q:Value→Shared→Prop}(ht:IsTup s.heap t items)(hs:s.heap.IsSliceOf sl vl vu .none)(pl:IsPart vl lo)(pu:IsPart vu hi)
 (hw:¬(sIx items.size 0 lo=0∧sIx items.size items.size hi=items.size))
 (h:Q (.ref s.heap.objs.size) {s with heap:=s.heap.push {cls:= .type "tuple",data:= .seq ((items.toList.drop (sIx items.size 0 lo)).take (sIx items.size items.size hi - sIx items.size 0 lo)).toArray} })
 (hsz:items.size≤sizeLine):wpAny (model prog w) A (getItem (.ref t) (.ref sl)) Q E s:=by
 have xS:sizeOk (.seq ((items.toList.drop (sIx items.size 0 lo)).take (sIx items.size items.size hi - sIx items.size 0 lo)).toArray):=by
  show ((items.toList.drop (sIx items.size 0 lo)).take (sIx items.size items.size hi - sIx items.size 0 lo)).toArray.size≤sizeLine
  rw[List.size_toArray,List.length_take,List.length_drop,Array.length_toList]
  omega
 have hj:sIx items.size items.size hi≤items.size:=sIx_le _ _ (Nat.le_refl _) hi
 obtain⟨os,uu,FU,yX⟩:=id hs
 have Iz:s.TypeIs (.ref sl) "slice":=⟨os,uu,FU⟩
 unfold getItem
 try with_reducible refine wpAny_holding ?_
 first | refine wpAny_bind (wpAny_pure ?_) | skip
 refine wpAny_bind (wpAny_sequenceKey ht.typeIs (by decide) ?_)
 refine wpAny_bind (wpAny_callSpecial?_slot (name:=Str.ofString "__getitem__") ht.typeIs PyProof.Rows.slot_tuple_getitem
  (wpAny_call_entry PyProof.Rows.slot_tuple_getitem ht.typeIs entry_tuple_getitem ?_ (args_tuple_getitem _ _)))
 show wpAny _ _ (Builtin.Tuple.tupleItemsOf (.ref t)>>=_) _ _ s
 refine wpAny_bind (tupleItemsOf_ ht ?_)
 refine wpAny_bind (wpAny_typeOf Iz ?_)
 rw[if_pos (by decide)]
 refine wpAny_bind (sliceApplied_gen hs pl pu ?_)
 have nB:¬((((sIx items.size 0 lo:Nat):Int)==0&&(1:Int)==1&&(sIx items.size items.size hi - sIx items.size 0 lo)==items.size)=true):=by
  intro q
  rw[Bool.and_eq_true,Bool.and_eq_true] at q
  have q1:((sIx items.size 0 lo:Nat):Int)=0:=eq_of_beq q.1.1
  have q2:sIx items.size items.size hi - sIx items.size 0 lo=items.size:=eq_of_beq q.2
  exact hw ⟨by omega,by omega⟩
 show wpAny _ _ (if (((sIx items.size 0 lo:Nat):Int)==0&&(1:Int)==1&&(sIx items.size items.size hi - sIx items.size 0 lo)==items.size)=true then _ else _) _ _ s
 rw[if_neg nB,pick_gen]
 first
  |exact wpAny_bind (m:=Builtin.Tuple.tupleExact _) (wpAny_newObj_type (wpAny_pure ⟨_,rfl,wpAny_pure h⟩) xS)
  |exact wpAny_bind (m:=Builtin.Tuple.tupleExact _) (wpAny_newObj_type (wpAny_bind (wpAny_pure (wpAny_pure ⟨_,rfl,wpAny_pure h⟩))) xS)
  |exact wpAny_bind (wpAny_bind (m:=Builtin.Tuple.tupleExact _) (wpAny_newObj_type (wpAny_pure (wpAny_pure ⟨_,rfl,wpAny_pure h⟩)) xS))
  |exact wpAny_bind (wpAny_bind (m:=Builtin.Tuple.tupleExact _) (wpAny_newObj_type (wpAny_pure ⟨_,rfl,wpAny_pure h⟩) xS))
end
end HT
namespace L2
open PySem PySem.Spec PyProof.Rows
abbrev TO:=St→Hp→(Option Int→Hp→Prop)→Prop
def PO(X:Cx)(e:Option Expr)(t:TO):Prop:=
 ∀(pins:List (Addr×Obj)) (s:Shared) (σ:St) (H:Hp) (Q:Option Int→Hp→Prop),Inv X pins σ H s→t σ H Q→
  wpAny (model X.prog X.w) X.A (evalPart e X.env) (fun u s'=>∃o H',Inv X pins σ H' s'∧IsPart u o∧Q o H') X.xe s
def JY(t:TE):TO:=fun σ H Q=>t σ H fun x H1=>∃i,x= .int i∧Q (some i) H1
theorem intsAre_of{ns:List Int}:∀{us:List Value},Vals (ns.map V.int) us→IntsAre us ns:=by
 induction ns with
 |nil=>intro us r;rw[List.map_nil] at r;cases r;exact .nil
 |cons n ns ih=>
  intro us r
  rw[List.map_cons] at r
  cases r with
  |cons r1 r2=>
   obtain⟨t,e⟩:=r1
   subst e
   exact .cons n t (ih r2)
section
variable{X:Cx}{e:Expr}{te:TE}{lo hi:Option Expr}{tl th:TO}{pos p2:Pos}
theorem Eg(h:PE X e te):PO X (some e) (JY te):=by
 intro pins s σ H Q I hw
 rw[evalPart_some]
 refine bG (h pins s σ H _ I hw) fun u s1 ⟨x,H1,I1,r1,q1⟩=>?_
 obtain⟨i,rfl,q⟩:=q1
 obtain⟨t,rfl⟩:=r1
 exact⟨some i,H1,I1, .int i t,q⟩
def SlR(X:Cx)(r:V→Option Int→Option Int→Hp→VK→Prop):Prop:=
 ∀(pins:List (Addr×Obj)) (s:Shared) (σ:St) (H:Hp) (x:V) (v vl vu:Value) (lo hi:Option Int) (sl:Addr) (Q:VK),Inv X pins σ H s→RelV x v→s.heap.IsSliceOf sl vl vu .none→IsPart vl lo→IsPart vu hi→r x lo hi H Q→
  ∃T id,typeLookup (.type T) "__getitem__"=pure (some (.builtin id))∧s.TypeIs v T∧wpAny (model X.prog X.w) X.A (getItem v (.ref sl)) (EP X pins σ Q) X.xe s
theorem SlR.or{r r':V→Option Int→Option Int→Hp→VK→Prop}(h:SlR X r)(h':SlR X r'):SlR X (fun x lo hi H Q=>r x lo hi H Q∨r' x lo hi H Q):=by
 intro pins s σ H x v vl vu lo hi sl Q I rx hs pl pu q
 rcases q with q | q
 ·exact h pins s σ H x v vl vu lo hi sl Q I rx hs pl pu q
 ·exact h' pins s σ H x v vl vu lo hi sl Q I rx hs pl pu q
def Pp(r:V→Option Int→Option Int→Hp→VK→Prop)(te:TE)(tl th:TO):TE:=fun σ H Q=>te σ H fun x H1=>tl σ H1 fun l H2=>th σ H2 fun u H3=>r x l u H3 Q
theorem BW{r:V→Option Int→Option Int→Hp→VK→Prop}(hr:SlR X r)(he:PE X e te)(hl:PO X lo tl)(hu:PO X hi th):PE X (.Subscript e (.Slice lo hi none p2) pos) (Pp r te tl th):=by
 intro pins s σ H Q I h
 refine Subscript_ (bG (he pins s σ H _ I h) fun v s1 ⟨x,H1,I1,r1,q1⟩=>?_)
 refine wpAny_Slice (bG (hl pins s1 σ H1 _ I1 q1) fun vl s2 ⟨l,H2,I2,pl,q2⟩=>bG (hu pins s2 σ H2 _ I2 q2) fun vu s3 ⟨u,H3,I3,pu,q3⟩=>?_)
 rw[evalPart_none]
 refine wpAny_pure ?_
 have I4:Inv X pins σ H3 {s3 with heap:=s3.heap.push {cls:= .type "slice",data:= .fields #[vl,vu, .none]} }:=I3.kept (t':=s3.toks) fun b ob q=>Heap.get?_push_of_some _ q
 obtain⟨T,id,hT,ht,hg⟩:=hr pins {s3 with heap:=s3.heap.push {cls:= .type "slice",data:= .fields #[vl,vu, .none]} } σ H3 x v vl vu l u s3.heap.objs.size Q I4 r1 (Heap.IsSliceOf.new ..) pl pu q3
 show wpAny (model X.prog X.w) X.A (subscriptTail e (.Slice lo hi none p2) v (.ref s3.heap.objs.size)) (EP X pins σ Q) X.xe {s3 with heap:=s3.heap.push {cls:= .type "slice",data:= .fields #[vl,vu, .none]} }
 exact tail_any (ops:=[.ref s3.heap.objs.size,v]) ht hT hg (by with_unfolding_all rfl)
def tX(xs:List V)(lo hi:Option Int):List V:=(xs.drop (HT.sIx xs.length 0 lo)).take (HT.sIx xs.length xs.length hi - HT.sIx xs.length 0 lo)
theorem lG(xs:List V)(lo hi:Option Int):(tX xs lo hi).length≤xs.length:=by
 unfold tX
 rw[List.length_take,List.length_drop]
 omega
def L_(K:W.Frag):V→Option Int→Option Int→Hp→VK→Prop:=fun x lo hi H Q=>∃a xs,x= .ref a∧SqT K H a xs∧
 ¬(HT.sIx xs.length 0 lo=0∧HT.sIx xs.length xs.length hi=xs.length)∧∀p,H p=none→Q (.ref p) (upd H p (.tup (tX xs lo hi)))
theorem Hq:SlR X (L_ X.K):=by
 intro pins s σ H x v vl vu lo hi sl Q I rx hs pl pu h
 obtain⟨a,xs,rfl,hx,hw,q⟩:=h
 cases rx
 obtain⟨aF,r,ht,hz⟩:=I.tuple hx
 have hlen:aF.toArray.size=xs.length:=by rw[List.size_toArray];exact r.length.symm
 refine⟨"tuple",_,PyProof.Rows.slot_tuple_getitem.lookup,ht.typeIs,?_⟩
 refine HT.getItem_tuple_cut ht hs pl pu (by rw[hlen];exact hw) ?_ (by rw[hlen];exact hz)
 rw[hlen]
 refine⟨.ref s.heap.objs.size,_,I.laid (t':=s.toks) (o:= .tup (tX xs lo hi)) (fun b ob q=>Heap.get?_push_of_some _ q) (Nat.le_refl _) ?_,rfl,q _ (I.hok.fresh (Nat.le_refl _))⟩
 exact⟨Nat.le_trans (lG xs lo hi) hz,_,(r.drop (HT.sIx xs.length 0 lo)).take (HT.sIx xs.length xs.length hi - HT.sIx xs.length 0 lo),IsTup.new _ _⟩
def JB(K:W.Frag):R2:=fun x y H Q=>∃a b xs ys,x= .ref a∧y= .ref b∧SqT K H a xs∧SqT K H b ys∧xs≠[]∧xs.length+ys.length≤sizeLine∧
 (ys=[]→Q (.ref a) H)∧(ys≠[]→∀p,H p=none→Q (.ref p) (upd H p (.tup (xs++ys))))
theorem Vals.nil_iff{xs:List V}{us:List Value}(r:Vals xs us):us=[]↔xs=[]:=by
 cases r with
 |nil=>simp
 |cons _ _=>simp
theorem DY:OpR X (binaryOp .Add) (JB X.K):=by
 intro pins s σ H x y v u Q I rx ry h
 obtain⟨a,b,xs,ys,rfl,rfl,ha,hb,hx,hz,q1,q2⟩:=h
 cases rx
 cases ry
 obtain⟨aF,r1,p1,_⟩:=I.tuple ha
 obtain⟨fM,r2,p2,_⟩:=I.tuple hb
 refine HT.cat_tup p1 p2 (fun z=>hx (r1.nil_iff.mp z)) (fun z=>⟨.ref a,H,I,rfl,q1 (r2.nil_iff.mp z)⟩) (fun z=>?_) (by rw[←r1.length,←r2.length];exact hz)
 refine⟨.ref s.heap.objs.size,_,I.laid (t':=s.toks) (o:= .tup (xs++ys)) (fun b ob q=>Heap.get?_push_of_some _ q) (Nat.le_refl _) ?_,rfl,q2 (fun w=>z (r2.nil_iff.mpr w)) _ (I.hok.fresh (Nat.le_refl _))⟩
 exact⟨by rw[List.length_append];exact hz,_,r1.append r2,IsTup.new _ _⟩
end
def Gp(n:Nat)(i:Int):Option Nat:=if 0≤i then(if i<n then some i.toNat else none) else if -(n:Int)≤i then some (i+n).toNat else none
def atI{α:Type}(xs:List α)(i:Int):Option α:=(Gp xs.length i).bind fun j=>xs[j]?
theorem DI{n:Nat}{i:Int}{j:Nat}(h:Gp n i=some j):seqIndex? i n=some j∧j<n∧ -(n:Int)≤i∧i<n:=by
 unfold Gp at h
 by_cases h0:0≤i
 ·rw[if_pos h0] at h
  by_cases h1:i<n
  ·rw[if_pos h1] at h
   have e:i.toNat=j:=Option.some.inj h
   exact⟨by rw[seqIndex_of h0 h1,e],by omega,by omega,h1⟩
  ·rw[if_neg h1] at h;cases h
 ·rw[if_neg h0] at h
  by_cases h1: -(n:Int)≤i
  ·rw[if_pos h1] at h
   have e:(i+n).toNat=j:=Option.some.inj h
   exact⟨by rw[seqIndex_neg (by omega) h1,e],by omega,h1,by omega⟩
  ·rw[if_neg h1] at h;cases h
theorem rE{α:Type}{xs:List α}{i:Int}{v:α}(h:atI xs i=some v):∃j,seqIndex? i xs.length=some j∧xs[j]? =some v∧j<xs.length∧ -(xs.length:Int)≤i∧i<xs.length:=by
 unfold atI at h
 cases e:Gp xs.length i with
 |none=>rw[e] at h;cases h
 |some j=>
  rw[e] at h
  obtain⟨h1,h2,h3,h4⟩:=DI e
  exact⟨j,h1,h,h2,h3,h4⟩
def iw(b:Expr):Prop:=∀o i,subscripted b false o i=operate [o,i] (getItem o i)
def HW(X:Cx)(r:R2):Prop:=
 ∀(value slice:Expr) (pins:List (Addr×Obj)) (s:Shared) (σ:St) (H:Hp) (x y:V) (v u:Value) (Q:VK),Inv X pins σ H s→RelV x v→RelV y u→r x y H Q→
  subscripted slice false v u=operate [v,u] (getItem v u)→wpAny (model X.prog X.w) X.A (subscriptTail value slice v u) (EP X pins σ Q) X.xe s
def Kw(X:Cx)(id:String)(r:V→List V→Hp→VK→Prop):Prop:=
 ∀(pins:List (Addr×Obj)) (s:Shared) (σ:St) (H:Hp) (x:V) (xs:List V) (v:Value) (us:List Value) (Q:VK),Inv X pins σ H s→RelV x v→Vals xs us→r x xs H Q→
  wpAny (model X.prog X.w) X.A (call (.builtin id) (v::us)) (EP X pins σ Q) X.xe s
section
variable{X:Cx}{a b:Expr}{ta tb:TE}{pos:Pos}
theorem Jv{r:R2}(hr:HW X r)(ha:PE X a ta)(hb:PE X b tb)(hs:iw b):PE X (.Subscript a b pos) (JX r ta tb):=by
 intro pins s σ H Q I h
 exact Subscript_ (Fq ha hb I h fun v u s2 x y H2 I2 rx ry q=>hr a b pins s2 σ H2 x y v u Q I2 rx ry q (hs _ _))
def Hg(K:W.Frag):R2:=fun x y H Q=>∃p xs i v,x= .ref p∧y= .int i∧SqL K H p xs∧atI xs i=some v∧Q v H
def JG(K:W.Frag):R2:=fun x y H Q=>∃p xs i v,x= .ref p∧y= .int i∧SqT K H p xs∧atI xs i=some v∧Q v H
def JF:R2:=fun x y H Q=>∃z i c,x= .str z∧y= .int i∧z.length≤sizeLine∧atI z.cps.toList i=some c∧Q (.str ⟨#[c]⟩) H
theorem xY:HW X (Hg X.K):=by
 intro value slice pins s σ H x y v u Q I rx ry h hs
 obtain⟨p,xs,i,z,rfl,rfl,hq,he,q⟩:=h
 cases rx
 obtain⟨t,rfl⟩:=ry
 obtain⟨aF,r,pl,hz⟩:=I.list hq
 obtain⟨j,h1,h2,h3,h4,h5⟩:=rE he
 obtain⟨w,ew,C4⟩:=r.get h2
 have hl:=r.length
 have hn:=kP
 have fin:EP X pins σ Q w s:=⟨z,H,I,C4,q⟩
 by_cases h0:0≤i
 ·have hj:i.toNat=j:=by
   rw[seqIndex_of h0 h5] at h1
   exact Option.some.inj h1
  exact item_listR pl.isList h0 (by omega) (by rw[hj];simpa using ew) fin hs
 ·have hj:(i+(aF.toArray.size:Int)).toNat=j:=by
   rw[seqIndex_neg (by omega) h4] at h1
   rw[List.size_toArray,←hl]
   exact Option.some.inj h1
  exact subscriptTail_builtinR (x:=w) pl.isList.typeIs slot_list_getitem.lookup
   (wpAny_getItem_list_neg (Q:=fun r s'=>r=w∧EP X pins σ Q r s') pl.isList (by omega) (by rw[List.size_toArray]<;>omega) (by omega) (by rw[hj];simpa using ew) ⟨rfl,fin⟩) hs
theorem Gr:HW X (JG X.K):=by
 intro value slice pins s σ H x y v u Q I rx ry h hs
 obtain⟨p,xs,i,z,rfl,rfl,hq,he,q⟩:=h
 cases rx
 obtain⟨t,rfl⟩:=ry
 obtain⟨aF,r,pl,hz⟩:=I.tuple hq
 obtain⟨j,h1,h2,h3,h4,h5⟩:=rE he
 obtain⟨w,ew,C4⟩:=r.get h2
 have hl:=r.length
 have hn:=kP
 have fin:EP X pins σ Q w s:=⟨z,H,I,C4,q⟩
 exact subscriptTail_builtinR (x:=w) pl.typeIs slot_tuple_getitem.lookup
  (getItem_tuple (j:=j) (Q:=fun r s'=>r=w∧EP X pins σ Q r s') pl (by omega) (by omega) (by rw[List.size_toArray,←hl];exact h1) (by simpa using ew) ⟨rfl,fin⟩) hs
theorem Gq:HW X JF:=by
 intro value slice pins s σ H x y v u Q I rx ry h hs
 obtain⟨z,i,c,rfl,rfl,hz,he,q⟩:=h
 obtain⟨t,rfl⟩:=rx
 obtain⟨t',rfl⟩:=ry
 obtain⟨j,h1,h2,h3,h4,h5⟩:=rE he
 have hl:z.cps.toList.length=z.length:=by simp[Str.length]
 rw[hl] at h1 h4 h5
 have hn:=kP
 exact tail_any (typeIs_str s z t) slot_str_getitem.lookup (getItem_str (c:=c) (by
  have e1:decide (i< -(2 ^ 63:Int))=false:=decide_eq_false (by omega)
  have e2:decide (i≥2 ^ 63)=false:=decide_eq_false (by omega)
  rw[e1,e2,Bool.or_false]) (by rw[h1];simpa using h2) ⟨.str ⟨#[c]⟩,H,I.tok _,⟨_,rfl⟩,q⟩) hs
theorem sX(lo hi:Option Int)(n:Nat):(sliceBounds lo hi none n).1=((HT.sIx n 0 lo:Nat):Int)∧(sliceBounds lo hi none n).2.1=((HT.sIx n n hi:Nat):Int)∧(sliceBounds lo hi none n).2.2=1:=by
 refine⟨?_,?_,rfl⟩
 ·cases lo with
  |none=>simp[sliceBounds,HT.sIx]
  |some i=>
   simp only[sliceBounds,HT.sIx,Option.getD_none,show (1:Int)>0 by decide,if_true]
   by_cases h:i<0
   ·simp only[h,if_true]<;>omega
   ·simp only[h,if_false]<;>omega
 ·cases hi with
  |none=>simp[sliceBounds,HT.sIx]
  |some i=>
   simp only[sliceBounds,HT.sIx,Option.getD_none,show (1:Int)>0 by decide,if_true]
   by_cases h:i<0
   ·simp only[h,if_true]<;>omega
   ·simp only[h,if_false]<;>omega
theorem pP(aF:List Value)(lo hi:Option Int):slicePick aF.toArray lo hi none=((aF.drop (HT.sIx aF.length 0 lo)).take (HT.sIx aF.length aF.length hi - HT.sIx aF.length 0 lo)).toArray:=by
 obtain⟨h1,h2,h3⟩:=sX lo hi aF.toArray.size
 unfold slicePick
 rw[h1,h2,h3]
 simp only[sliceRange_one,pick_run,List.size_toArray]<;>rfl
def L9(K:W.Frag):V→Option Int→Option Int→Hp→VK→Prop:=fun x lo hi H Q=>∃a xs,x= .ref a∧SqL K H a xs∧∀p,H p=none→Q (.ref p) (upd H p (.lst (tX xs lo hi)))
theorem Ew:SlR X (L9 X.K):=by
 intro pins s σ H x v vl vu lo hi sl Q I rx hs pl pu h
 obtain⟨a,xs,rfl,hx,q⟩:=h
 cases rx
 obtain⟨aF,r,ht,hz⟩:=I.list hx
 have hlen:=r.length
 refine⟨"list",_,slot_list_getitem.lookup,ht.isList.typeIs,?_⟩
 refine wpAny_getItem_list_slice ht.isList hs pl pu .none (by simp) ?_ (by rw[List.size_toArray]<;>omega)
 rw[pP,←hlen]
 refine⟨.ref s.heap.objs.size,_,I.laid (t':=s.toks) (o:= .lst (tX xs lo hi)) (fun b ob q=>Heap.get?_push_of_some _ q) (Nat.le_refl _) ?_,rfl,q _ (I.hok.fresh (Nat.le_refl _))⟩
 exact⟨Nat.le_trans (lG xs lo hi) hz,_,0,(r.drop (HT.sIx xs.length 0 lo)).take (HT.sIx xs.length xs.length hi - HT.sIx xs.length 0 lo),Heap.get?_push_size _ rfl⟩
def lH:V→Bool
 | .non=>true
 | .bl _=>true
 | .int _=>true
 | .str _=>true
 |_=>false
def CV:V→V→Bool
 | .non, .non=>true
 | .bl a, .bl b=>a==b
 | .bl a, .int b=>(if a then 1 else 0)==b
 | .int a, .bl b=>a==(if b then 1 else 0)
 | .int a, .int b=>a==b
 | .str a, .str b=>a==b
 |_,_=>false
theorem FA{A:Around}{s:Shared}{y x:V}{u v:Value}(ry:RelV y u)(rx:RelV x v)(fy:lH y=true)(fx:lH x=true):SeqAt.EqAt A s u v (CV y x):=by
 cases y with
 |non=>
  cases ry
  cases x with
  |non=>cases rx;exact SeqAt.EqAt.same _
  |bl b=>cases rx;exact SeqAt.EqAt.none_bool b
  |int b=>obtain⟨t,rfl⟩:=rx;exact SeqAt.EqAt.none_int b t
  |str b=>obtain⟨t,rfl⟩:=rx;exact SeqAt.EqAt.none_str b t
  |_=>exact absurd (show false=true from fx) Bool.false_ne_true
 |bl a=>
  cases ry
  cases x with
  |non=>cases rx;exact SeqAt.EqAt.bool_none a
  |bl b=>cases rx;exact SeqAt.EqAt.bool_bool a b
  |int b=>obtain⟨t,rfl⟩:=rx;exact SeqAt.EqAt.bool_int a b t
  |str b=>obtain⟨t,rfl⟩:=rx;exact SeqAt.EqAt.bool_str a b t
  |_=>exact absurd (show false=true from fx) Bool.false_ne_true
 |int a=>
  obtain⟨t',rfl⟩:=ry
  cases x with
  |non=>cases rx;exact SeqAt.EqAt.int_none a t'
  |bl b=>cases rx;exact SeqAt.EqAt.int_bool a t' b
  |int b=>obtain⟨t,rfl⟩:=rx;exact SeqAt.EqAt.int_int a t' b t
  |str b=>obtain⟨t,rfl⟩:=rx;exact SeqAt.EqAt.int_str a t' b t
  |_=>exact absurd (show false=true from fx) Bool.false_ne_true
 |str a=>
  obtain⟨t',rfl⟩:=ry
  cases x with
  |non=>cases rx;exact SeqAt.EqAt.str_none a t'
  |bl b=>cases rx;exact SeqAt.EqAt.str_bool a t' b
  |int b=>obtain⟨t,rfl⟩:=rx;exact SeqAt.EqAt.str_int a t' b t
  |str b=>obtain⟨t,rfl⟩:=rx;exact SeqAt.EqAt.str_str a t' b t
  |_=>exact absurd (show false=true from fx) Bool.false_ne_true
 |_=>exact absurd (show false=true from fy) Bool.false_ne_true
def Dm(x:V)(u:Value):Bool:=match u with
 | .none=>CV .non x
 | .bool b=>CV (.bl b) x
 | .int i _=>CV (.int i) x
 | .str z _=>CV (.str z) x
 |_=>false
theorem AD{x y:V}{u:Value}(r:RelV y u)(f:lH y=true):Dm x u=CV y x:=by
 cases y with
 |non=>cases r;rfl
 |bl b=>cases r;rfl
 |int i=>obtain⟨t,rfl⟩:=r;rfl
 |str z=>obtain⟨t,rfl⟩:=r;rfl
 |_=>exact absurd (show false=true from f) Bool.false_ne_true
theorem rA{x:V}:∀{xs:List V}{us:List Value},Vals xs us→xs.all lH=true→us.any (Dm x)=xs.any fun y=>CV y x
 |_,_, .nil,_=>rfl
 |y::xs,u::us, .cons r t,f=>by
  rw[List.all_cons,Bool.and_eq_true] at f
  rw[List.any_cons,List.any_cons,AD r f.1,rA t f.2]
theorem nU{A:Around}{s:Shared}{x:V}{v:Value}(rx:RelV x v)(fx:lH x=true):∀{xs:List V}{us:List Value},Vals xs us→xs.all lH=true→∀u∈us,SeqAt.EqAt A s u v (Dm x u)
 |_,_, .nil,_=>fun u hu=>by cases hu
 |y::xs,u::us, .cons r t,f=>fun u' hu=>by
  rw[List.all_cons,Bool.and_eq_true] at f
  rcases List.mem_cons.mp hu with rfl | hu
  ·rw[AD r f.1];exact FA r rx f.1 fx
  ·exact nU rx fx t f.2 u' hu
def Kj(x:V)(xs:List V):Bool:=xs.any fun y=>CV y x
def Nv(K:W.Frag)(neg:Bool):R2:=fun x y H Q=>∃p xs,y= .ref p∧(SqL K H p xs∨SqT K H p xs)∧lH x=true∧xs.all lH=true∧Q (.bl (if neg then !Kj x xs else Kj x xs)) H
theorem sy:OpR X (compareOp .NotIn) (Nv X.K true):=by
 intro pins s σ H x y v u Q I rx ry h
 obtain⟨p,xs,rfl,hq,fx,fs,q⟩:=h
 cases ry
 rcases hq with hq | hq
 ·obtain⟨aF,r,pl,hz⟩:=I.list hq
  refine SeqAt.notIn_listAt (Dm x) pl.isList (fun w hw=>nU rx fx r fs w (by simpa using hw)) ⟨.bl _,H,I,rfl,?_⟩
  rw[show aF.toArray.any (Dm x)=aF.any (Dm x) by simp,rA r fs]
  exact q
 ·obtain⟨aF,r,pl,hz⟩:=I.tuple hq
  refine SeqAt.notIn_tupleAt (Dm x) pl (fun w hw=>nU rx fx r fs w (by simpa using hw)) ⟨.bl _,H,I,rfl,?_⟩
  rw[show aF.toArray.any (Dm x)=aF.any (Dm x) by simp,rA r fs]
  exact q
theorem rK:CallR X (.builtin "len") (fun xs H Q=>∃p ys,xs=[.ref p]∧(SqL X.K H p ys∨SqT X.K H p ys)∧Q (.int ys.length) H):=by
 intro pins s σ H xs us Q I r h
 obtain⟨p,ys,rfl,hq,q⟩:=h
 obtain⟨u,rfl,rx⟩:=vals1 r
 cases rx
 have hn:=kP
 rcases hq with hq | hq
 ·obtain⟨aF,r',pl,hz⟩:=I.list hq
  have hlen:=r'.length
  exact Calls.call_len_list pl.isList (by simp only[List.size_toArray]<;>omega) ⟨.int ys.length,H,I.tok _,⟨s.toks+1,by rw[List.size_toArray,hlen]⟩,q⟩
 ·obtain⟨aF,r',pl,hz⟩:=I.tuple hq
  have hlen:=r'.length
  exact len_tuple pl (by simp only[List.size_toArray]<;>omega) ⟨.int ys.length,H,I.tok _,⟨s.toks+1,by rw[List.size_toArray,hlen]⟩,q⟩
theorem rL:CallR X (.builtin "len") (fun xs H Q=>∃z,xs=[.str z]∧z.length≤sizeLine∧Q (.int z.length) H):=by
 intro pins s σ H xs us Q I r h
 obtain⟨z,rfl,hz,q⟩:=h
 obtain⟨u,rfl,t,rfl⟩:=vals1 r
 have hn:=kP
 exact len_str (by omega) ⟨.int z.length,H,I.tok _,⟨_,rfl⟩,q⟩
theorem CallR.or{f:Value}{r r':List V→Hp→VK→Prop}(h:CallR X f r)(h':CallR X f r'):CallR X f (fun xs H Q=>r xs H Q∨r' xs H Q):=by
 intro pins s σ H xs us Q I rs q
 rcases q with q | q
 ·exact h pins s σ H xs us Q I rs q
 ·exact h' pins s σ H xs us Q I rs q
theorem pA:CallR X (.type "tuple") (fun xs H Q=>∃p ys,xs=[.ref p]∧((SqL X.K H p ys∧∀l,H l=none→Q (.ref l) (upd H l (.tup ys)))∨(SqT X.K H p ys∧Q (.ref p) H))):=by
 intro pins s σ H xs us Q I r h
 obtain⟨p,ys,rfl,h⟩:=h
 obtain⟨u,rfl,rx⟩:=vals1 r
 cases rx
 rcases h with⟨hq,q⟩ | ⟨hq,q⟩
 ·obtain⟨aF,r',pl,hz⟩:=I.list hq
  have hlen:=r'.length
  refine call_tuple_list pl.isList (fun h' kp=>?_) (by simp only[List.size_toArray]<;>omega)
  have I1:Inv X pins σ H {s with heap:=h'}:=I.kept (t':=s.toks) kp
  have I2:Inv X pins σ (upd H h'.objs.size (.tup ys)) {s with heap:=h'.push {cls:= .type "tuple",data:= .seq aF.toArray} }:=
   I1.laid (t':=s.toks) (fun b o e=>Heap.get?_push_of_some _ e) (Nat.le_refl _) (show ObjOk X.prog X.w _ _ _ (.tup ys) from⟨hz,aF,r',IsTup.new _ _⟩)
  exact⟨.ref h'.objs.size,_,I2,rfl,q _ (I1.hok.fresh (Nat.le_refl _))⟩
 ·obtain⟨aF,r',pl,hz⟩:=I.tuple hq
  exact call_tuple_same pl ⟨.ref p,H,I,rfl,q⟩
def Ks(K:W.Frag)(T:String)(x:V)(H:Hp):Prop:=match x with
 | .str _=>T="str"
 | .int _=>T="int"
 | .ref p=>(T="list"∧∃xs,SqL K H p xs)∨(T="tuple"∧∃o,K.lookup p=some o∧o.cls= .type "tuple"∧o.dict=none)∨
    (T="dict"∧((∃aw,H p=some (.dK aw))∨∃aw,H p=some (.dT aw)))∨(T="set"∧∃S n,H p=some (.set S n))
 |_=>False
theorem HD{pins:List (Addr×Obj)}{σ:St}{H:Hp}{s:Shared}{T:String}{x:V}{v:Value}(I:Inv X pins σ H s)(r:RelV x v)(ty:Ks X.K T x H):
 s.TypeIs v T∧∀a,v= .ref a→∃ob,s.heap.get? a=some ob∧ob.dict=none:=by
 cases x with
 |str z=>
  obtain⟨t,rfl⟩:=r
  cases (show T="str" from ty)
  exact⟨typeIs_str s z t,fun _ e=>nomatch e⟩
 |int i=>
  obtain⟨t,rfl⟩:=r
  cases (show T="int" from ty)
  exact⟨typeIs_int s i t,fun _ e=>nomatch e⟩
 |ref p=>
  cases r
  rcases ty with⟨rfl,xs,hq⟩ | ⟨rfl,o,hk,hc,hd⟩ | ⟨rfl,hk⟩ | ⟨rfl,S,n,hk⟩
  ·obtain⟨aF,_,pl,_⟩:=I.list hq
   refine⟨pl.isList.typeIs,fun a e=>?_⟩
   cases e
   obtain⟨o,n,e,c,hd,_⟩:=pl
   exact⟨o,e,hd⟩
  ·refine⟨⟨o,I.kIn p o hk,hc⟩,fun a e=>?_⟩
   cases e
   exact⟨o,I.kIn _ o hk,hd⟩
  ·have z:∃o,s.heap.get? p=some o∧o.ExactDict:=by
    rcases hk with⟨aw,hk⟩ | ⟨aw,hk⟩
    ·obtain⟨_,_,_,_,o,_,_,e,ex,_⟩:=I.hok p _ hk
     exact⟨o,e,ex⟩
    ·obtain⟨_,_,_,_,o,_,_,e,ex,_⟩:=I.hok p _ hk
     exact⟨o,e,ex⟩
   obtain⟨o,e,ex⟩:=z
   refine⟨⟨o,e,ex.1⟩,fun a e2=>?_⟩
   cases e2
   exact⟨o,e,ex.2.1⟩
  ·obtain⟨o,_,_,_,e,ex,_⟩:=I.hok p _ hk
   refine⟨⟨o,e,ex.1⟩,fun a e2=>?_⟩
   cases e2
   exact⟨o,e,ex.2.1⟩
 |_=>exact False.elim ty
def Md(K:W.Frag)(T:String)(r:V→List V→Hp→VK→Prop)(to:TE)(t:TA):TE:=fun σ H Q=>to σ H fun x H1=>Ks K T x H1∧t σ H1 fun xs H2=>r x xs H2 Q
variable{o e:Expr}{es:List Expr}{to:TE}{t:TA}{name:Str}{apos a6:Pos}{T id:String}{r:V→List V→Hp→VK→Prop}
theorem BN(pa:PlainAttrs T)(slot:Slot T name id)(LF:typeOf (.builtin id)=pure (.type "method_descriptor"))(hm:Kw X id r)(ho:PE X o to)(ha:PA X (e::es) t)
 (jH:attributeBase o name X.env (eval o X.env)=eval o X.env:=by rfl)
 (rV:((backTo a6 (starEach (e::es) X.env)).all (fun x=>!x.1)&&(backToKw a6 (keywordEach [] X.env)).all (fun x=>x.1.isSome)
  &&decide ((e::es).length+([]:List Keyword).length+(if ([]:List Keyword).isEmpty then 0 else 1)<30))=true:=by rfl)
 (jI:(apos.endLine==a6.line)=true:=by rfl) (hs:starEach (e::es) X.env=(false,eval e X.env)::starEach es X.env:=by rfl) (v5:(backTo a6 (starEach es X.env)).any (·.1)=false:=by rfl):
 PE X (.Call (.Attribute o name apos) (e::es) [] a6) (Md X.K T r to t):=by
 intro pins s σ H Q I h
 refine wpAny_Call_method_late jH rV jI rfl (bG (ho pins s σ H _ I h) fun v s1 ⟨x,H1,I1,r1,ty,q1⟩=>?_)
 obtain⟨h1,h2⟩:=HD I1 r1 ty
 refine⟨T,id,pa,slot,LF,h1,h2,?_⟩
 have hA:=ha a6 pins s1 σ H1 _ I1 q1
 rw[hs] at hA⊢
 refine Calls.callWith_builtin (by show (false||(backTo a6 (starEach es X.env)).any (·.1))=false;rw[v5]<;>rfl) (Calls.evalArgs_plain ?_)
 exact bG hA fun us s2 ⟨vs,H2,I2,r2,q2⟩=>hm pins s2 σ H2 x vs v us Q I2 r1 r2 q2
end
def Ms(X:Cx)(id:String)(r:V→List V→Hp→VK→Prop):Prop:=
 ∀(pins:List (Addr×Obj)) (s:Shared) (σ:St) (H:Hp) (x:V) (xs:List V) (v:Value) (us:List Value) (Q:VK),Inv X pins σ H s→RelV x v→Vals xs us→r x xs H Q→
  wpAny (model X.prog X.w) X.A (call (.builtin id) (v::us)) (EP X pins σ Q) X.xe s
theorem Vals.one:∀{x:V}{us:List Value},Vals [x] us→∃u,us=[u]∧RelV x u
 |_,_, .cons r .nil=>⟨_,rfl,r⟩
theorem Vals.reverse{xs:List V}{us:List Value}(h:Vals xs us):Vals xs.reverse us.reverse:=by
 induction h with
 |nil=>exact .nil
 |cons r t ih=>rw[List.reverse_cons,List.reverse_cons];exact Vals.append ih (.cons r .nil)
section
variable{X:Cx}{pins:List (Addr×Obj)}{σ:St}{H:Hp}{s:Shared}{l b:Addr}{xs ys zs:List V}
theorem Inv.lset{aF its':List Value}{n:Nat}{f:Array Value→Array Value}{t':Nat}(I:Inv X pins σ H s)(hH:H l=some (.lst xs))
 (e:s.heap.get? l=some {cls:= .type "list",data:= .seq aF.toArray n})(hf:f aF.toArray=its'.toArray)(hv:Vals ys its')(hz:ys.length≤sizeLine):
 Inv X pins σ (upd H l (.lst ys)) {s with heap:=s.heap.update l (Obj.mapSeq f),toks:=t'}:=by
 have q:=PySem.IsL.update e f
 rw[hf] at q
 refine I.write (x:=l) (e:=l) (by rw[hH];exact trivial) (.inl rfl) (fun b' u hb hu=>(Heap.get?_update_other s.heap (Obj.mapSeq f) (Ne.symm hb)).trans hu) ⟨_,q⟩ ?_
 exact⟨hz,its',_,hv,q⟩
theorem Inv.lstM(I:Inv X pins σ H s)(hH:H l=some (.lst xs)):xs.length≤sizeLine∧∃(aF:List Value) (n:Nat),Vals xs aF∧xs.length=aF.length∧s.heap.get? l=some {cls:= .type "list",data:= .seq aF.toArray n}:=by
 obtain⟨z,aF,n,r,e⟩:=I.hok l _ hH
 exact⟨z,aF,n,r,r.length,e⟩
theorem Bv{n:Nat}(h:n≤sizeLine):Builtin.List.listTooLong n=false:=by
 unfold Builtin.List.listTooLong
 exact decide_eq_false (by omega)
end
section
variable{X:Cx}
def yn:V→List V→Hp→VK→Prop:=fun x vs H Q=>∃l xs y,x= .ref l∧vs=[y]∧H l=some (.lst xs)∧xs.length<sizeLine∧Q .non (upd H l (.lst (xs++[y])))
theorem qA:Ms X "list.append" yn:=by
 intro pins s σ H x vs v us Q I rx rv h
 obtain⟨l,xs,y,rfl,rfl,hH,hz,q⟩:=h
 cases rx
 obtain⟨u,rfl,ru⟩:=rv.one
 obtain⟨z,aF,n,r,hl,e⟩:=I.lstM hH
 refine call_meets F.slot_list_append ⟨_,e,rfl⟩ F.entry_list_append (F.args_list_append_2 _ _) (PySem.list_append l aF.toArray n u (by rw[List.size_toArray];omega)) ⟨e,?_⟩
 refine⟨.non,_,I.lset (its':=aF++[u]) hH e (by simp) (r.append (.cons ru .nil)) ?_,rfl,q⟩
 rw[List.length_append,List.length_singleton]
 omega
def yo:V→List V→Hp→VK→Prop:=fun x vs H Q=>∃l b xs zs,x= .ref l∧vs=[.ref b]∧H l=some (.lst xs)∧H b=some (.lst zs)∧xs.length+zs.length≤sizeLine∧Q .non (upd H l (.lst (xs++zs)))
theorem zl:Ms X "list.extend" yo:=by
 intro pins s σ H x vs v us Q I rx rv h
 obtain⟨l,b,xs,zs,rfl,rfl,hH,hB,hz,q⟩:=h
 cases rx
 obtain⟨u,rfl,ru⟩:=rv.one
 cases ru
 obtain⟨z,aF,n,r,hl,e⟩:=I.lstM hH
 obtain⟨z2,fM,n2,r2,xQ,e2⟩:=I.lstM hB
 have hsz:aF.toArray.size+fM.toArray.size≤sizeLine:=by rw[List.size_toArray,List.size_toArray];omega
 have IQ:¬(!aF.toArray.isEmpty&&Builtin.List.listTooLong (aF.toArray.size+fM.toArray.size))=true:=by
  rw[Bv hsz,Bool.and_false]
  exact Bool.false_ne_true
 refine call_meets F.slot_list_extend ⟨_,e,rfl⟩ F.entry_list_extend (F.args_list_extend_2 _ _)
  (AutoSeq1.list_extend_list_list_0 l aF.toArray n b fM.toArray n2 IQ (by rw[List.size_toArray];omega) (by omega)) ⟨e,e2,?_⟩
 refine⟨.non,_,I.lset (its':=aF++fM) hH e (by simp) (r.append r2) ?_,rfl,q⟩
 rw[List.length_append]
 omega
end
section
variable{prog:Program}{w:World}{A:Around}{E:Value→Shared→Prop}{s:Shared}
end
section
variable{X:Cx}
end
end L2
namespace Att
open PySem PySem.W PySem.Calls PyProof.Rows
theorem ints_of_wellAll{P:Params}{h:Heap}:∀(ns:List Int) (vs:List Value),WellAll P h vs (ns.map WData.int)→IntsAre vs ns:=by
 intro ns
 induction ns with
 |nil=>
  intro vs w
  rw[List.map_nil] at w
  cases w
  exact .nil
 |cons n ns ih=>
  intro vs w
  rw[List.map_cons] at w
  cases w with
  |cons a b=>
   cases a
   exact .cons _ _ (ih _ b)
theorem script_of{l:OpenLaw}{n:Nat}(hn:l.most=some n){P:Params}{h:Heap}{args:List WData}{vals:List Value}
 (Dw:l.row.toRowW.claim.pre args=true)(LH:WellAll P h vals args):
 ∃a vs ns,vals=[Value.ref a]∧args=[WData.list (ns.map WData.int)]∧h.get? a=some {cls:= .type "list",data:= .seq vs.toArray}∧IntsAre vs ns∧ns.length≤n:=by
 have OT:WShape.hasAll [] args [.list .int]=true:=(pre_splitW Dw).1
 have hc:l.pre.holds [] {args:=args}=true:=(pre_splitW Dw).2
 obtain⟨d,r,rfl,h1,h2⟩:=hasAllW_cons OT
 obtain rfl:=hasAllW_nil h2
 obtain⟨xs,rfl,h3⟩:=hasW_list h1
 obtain⟨ns,rfl⟩:=items_int h3
 have hlen:ns.length≤n:=by
  unfold OpenLaw.pre at hc
  have h4:(WTm.not (.lt (.lit (.int (n:Int))) (.len (.arg 0)))).holds [] {args:=[.list (ns.map .int)]}=true:=by
   have h4:=(holds_andW hc).1
   rw[hn] at h4
   exact h4
  have h5:=condW_of h4 (w_not (w_lt w_lit (w_len_list (w_arg rfl))))
  rw[List.length_map] at h5
  refine Nat.le_of_not_lt fun q=>?_
  have q':(n:Int)<((ns.length:Nat):Int):=by omega
  first
   |(rw [decide_eq_true q'] at h5;exact absurd h5 (by decide))
   |(simp at h5;omega)
 cases LH with
 |cons w1 w2=>
  cases w2
  cases w1 with
  |list ho KZ=>exact⟨_,_,ns,rfl,rfl,ho,ints_of_wellAll ns _ KZ,hlen⟩
theorem post_true(l:OpenLaw)(args:List WData):l.row.toRowW.claim.post args (.bool true) args=true:=
 postW_of (r:=l.row.toRowW) (X:=(true==true))
  (show WShape.has [] (.bool true) .bool=true by first | rfl | decide | simp[WShape.has,WShape.arms,WShape.armsAll])
  (show (WTm.eq .res (.lit (.bool true))).value [] {args:=args,res:=some (.bool true),after:=args}=some (.bool (true==true)) from w_eq_bool (w_res rfl) w_lit) rfl
theorem attach_call{l:OpenLaw}{n:Nat}{q:Program}{loose:List Str}{XP:(Str→Option Value)→Heap→Prop}{YP:World→Heap→Prop}{d:DefRec}
 (hn:l.most=some n)(IH:d.params.defaults=[])
 (call:∀(w:World) (s₀ s₁:Shared) (mg mb:Str→Option Value) (fa:Addr) (o:Obj) (pm cd doc:Value) (a:Addr) (vs:List Value) (ns:List Int),
  Ground q loose [] XP w s₀ mg mb s₁.heap→YP w s₁.heap→
  s₁.heap.get? fa=some o→o.data= .func (docDef d.name d.params d.body d.scope pm cd doc)→s₁.heap.CodeRec cd d.name→mg d.name=some (.ref fa)→
  s₁.heap.get? a=some {cls:= .type "list",data:= .seq vs.toArray}→IntsAre vs ns→ns.length≤n→s₁.gens= #[]→
  codeAny (model l.prog w) callerA (.call (.ref fa) ⟨[.ref a],[]⟩) (fun r s'=>r= .ok (.ret (.bool true))∧OldK s₁.heap s'.heap∧s'.os=s₁.os∧AllBare s'.gens) s₁):
 WalkO q loose XP YP l.row.toRowW d [] (fun f vs=>PySem.call f vs):=by
 intro w s₀ s₁ mg mb G Y fa o pm cd doc dV kV ho hd xN hD F8 hg args vals as Dw OA P8 LH P6
 obtain rfl:dV= .none:=Dflts.none hD IH
 obtain rfl:kV= .none:=Dflts.noKw hD
 obtain⟨a,vs,ns,rfl,rfl,A0,hints,hlen⟩:=script_of hn Dw LH
 refine enter_call (codeAny_mono (call w s₀ s₁ mg mb fa o pm cd doc a vs ns G Y ho (fd_plain hd) xN F8 A0 hints hlen hg) fun r s' hq=>?_)
 obtain⟨rfl,h2,h3,h4⟩:=hq
 exact⟨.inl ⟨.bool true, .bool true,[],rfl,fun _=>rfl, .bool true,post_true l _,fun _=>⟨List.Pairwise.nil,fun _ hm=>(nomatch hm)⟩⟩,h2,h3,h4⟩
section
variable{prog:Program}{w:World}{A:Around}{E:Value→Shared→Prop}{s:Shared}{K:Frag}
def ledger(h:Heap)(L d:Addr):List (Addr×Obj):=(List.range h.objs.size).filterMap fun a=>if a=L∨a=d then none else(h.get? a).map fun o=>(a,o)
end
end Att
namespace L2
open PySem PySem.Spec PyProof.Rows
theorem rm:∀{vs:List Value}{ns:List Int},IntsAre vs ns→Vals (ns.map V.int) vs
 |_,_, .nil=> .nil
 |_,_, .cons n t h=> .cons ⟨t,rfl⟩ (rm h)
def Fm(H:Hp):Prop:=∀b,H b=none∨∃o xs,H b=some (.frz o (.lst xs))
theorem uz{P:Program}{w:World}{K:W.Frag}{mg mb:Str→Option Value}{CX:vH}{k:Nat}{fa a:Addr}{fd:FuncData}{x:Str}{sp:Sp}{s₁:Shared}{vs:List Value}{ns:List Int}
 (KX:K.In s₁.heap)(M8:s₁.heap.Ns mainGlobals mg)(hb:s₁.heap.Ns builtinsNs mb)(N8:∀x:Str,x≠"__name__"→mb x=bootBuiltins x)(IP:s₁.heap.NoLimit)(hg:s₁.gens= #[])
 (ha:s₁.heap.get? a=some {cls:= .type "list",data:= .seq vs.toArray})(hi:IntsAre vs ns)(hl:ns.length≤sizeLine)(hr:Room k callerA)
 (F:∀base:Heap,K.In base→base.Ns mainGlobals mg→FnOk P w K mg base CX k fa fd [x] sp)(IF:∀(s:Shared) (u:Value),BindsTo s fd ⟨[u],[]⟩ [(x,u)])
 (E8:∀H:Hp,Fm H→SqL K H a (ns.map V.int)→sp [.ref a] H (fun v _=>v= .bl true) fun _ _ _=>False)
 (KL:∀H e s',CX [] H s₁ (fun _ _ _=>False) e s'→False):
 codeAny (model P w) callerA (.call (.ref fa) ⟨[.ref a],[]⟩) (fun r s'=>r= .ok (.ret (.bool true))∧OldK s₁.heap s'.heap∧s'.os=s₁.os∧AllBare s'.gens) s₁:=by
 have rv:=rm hi
 have LV:=hi.length
 have core:∀H:Hp,Fm H→SqL K H a (ns.map V.int)→HOk P w H s₁.heap→(∀b,H b≠none→b=a)→(H a≠none→K.lookup a=none)→
  codeAny (model P w) callerA (.call (.ref fa) ⟨[.ref a],[]⟩) (fun r s'=>r= .ok (.ret (.bool true))∧OldK s₁.heap s'.heap∧s'.os=s₁.os∧AllBare s'.gens) s₁:=by
  intro H hO hS hok hA hK
  have xy:∀{b:Addr}{o:Obj},s₁.heap.get? b=some o→H b=none→(rX s₁.heap H).get? b=some o:=fun e n=>AW e n
  have Jk:∀{b:Addr}{o:Obj}{es:Array DictEntry}{ep:Nat},s₁.heap.get? b=some o→o.data= .dict es ep→H b=none:=fun {b o es ep} e d=>by
   cases q:H b with
   |none=>rfl
   |some u=>
    have e':b=a:=hA b (by rw[q];simp)
    subst e'
    rw[ha] at e;cases e
    have d':Data.seq vs.toArray _=Data.dict es ep:=d
    cases d'
  have Kl:∀{b:Addr}{m:Str→Option Value},s₁.heap.Ns b m→(rX s₁.heap H).Ns b m:=fun {b m} ⟨o,es,ep,e,d,r⟩=>⟨o,es,ep,xy e (Jk e d),d,r⟩
  have MM:K.In (rX s₁.heap H):=fun b o e=>xy (KX b o e) (by
   cases q:H b with
   |none=>rfl
   |some u=>
    have e':b=a:=hA b (by rw[q];simp)
    subst e'
    rw[hK (by rw[q];simp)] at e;cases e)
  have hM:Mod K mg (rX s₁.heap H):=⟨MM,Kl M8,⟨mb,Kl hb,N8⟩,let ⟨mc,h1,h2⟩:=IP;⟨mc,Kl h1,h2⟩⟩
  have e0:Env0 P w K mg (rX s₁.heap H) callerA [] s₁ H:=⟨rfl,hM,fun b o e=>DX e,Nat.le_of_eq (yY _ _),trivial,fun b hb=>absurd (show b∈([]:List Addr) from hb) (by simp),hok, .of_eq hg⟩
  refine codeAny_mono ((F _ MM (Kl M8)).run callerA [] s₁ H ⟨[.ref a],[]⟩ [.ref a] [.ref a] _ _ hr e0 (IF s₁ (.ref a)) (.cons rfl .nil) (E8 H hO hS)) fun r s' h=>?_
  cases r with
  |error e=>exact(KL H e s' h).elim
  |ok fl=>
   cases fl with
   |next=>exact False.elim h
   |brk=>exact False.elim h
   |cont=>exact False.elim h
   |ret u=>
    obtain⟨v,H',os,bare,un,Lr,r',q⟩:=h
    have q':v= .bl true:=q
    subst q'
    obtain rfl:u=Value.bool true:=r'
    refine⟨rfl,OldK.of_keep fun b o e=>?_,os,bare⟩
    cases q:H b with
    |none=>exact un.keep b o e q (by intro z;exact absurd (show b∈([]:List Addr) from z) (by simp)) (by simp)
    |some u=>
     rcases hO b with z | ⟨ob,xs,z⟩
     ·rw[q] at z;cases z
     ·have z2:=un.frzs b ob _ z
      obtain⟨e1,_⟩:=hok b _ z
      obtain⟨e2,_⟩:=Lr b _ z2
      rw[e] at e1;cases e1
      exact e2
 cases hk:K.lookup a with
 |some o=>
  have e:=KX a o hk
  rw[ha] at e
  cases e
  refine core (fun _=>none) (fun _=> .inl rfl) (.inr ⟨_,vs.toArray,_,hk,rfl,rfl,rfl,by rw[List.size_toArray,LV];exact hl,by simpa using rv⟩) (fun b u z=>by have z':(none:Option HO)=some u:=z;cases z') (fun b z=>absurd rfl z) fun z=>absurd rfl z
 |none=>
  refine core (fun b=>if b=a then some (.frz {cls:= .type "list",data:= .seq vs.toArray} (.lst (ns.map V.int))) else none) (fun b=>?_) (.inl (.inr ⟨{cls:= .type "list",data:= .seq vs.toArray},if_pos rfl⟩)) (fun b u z=>?_) (fun b z=>?_) fun _=>hk
  ·by_cases hb:b=a
   ·exact .inr ⟨_,_,if_pos hb⟩
   ·exact .inl (if_neg hb)
  ·by_cases hb:b=a
   ·have z':=(if_pos hb).symm.trans z
    cases z'
    subst hb
    exact⟨ha,by rw[List.length_map];exact hl,vs,_,rv,ha⟩
   ·have z':=(if_neg hb).symm.trans z
    cases z'
  ·by_cases hb:b=a
   ·exact hb
   ·exact absurd (if_neg hb) z
abbrev PB{K:W.Frag}{h:Heap}(_:K.In h):W.Frag:=K
theorem Kt{l:PySem.W.OpenLaw}{n k:Nat}{q:Program}{loose:List Str}{XP:(Str→Option Value)→Heap→Prop}{YP:World→Heap→Prop}{d:DefRec}{K:Params→W.Frag}{CX:World→vH}{sp:World→Sp}{x:Str}
 (hn:l.most=some n)(Ke:n≤sizeLine)(IH:d.params.defaults=[])(hr:Room k callerA)
 (hY:∀(w:World) (h:Heap),YP w h→(K w.params).In h)
 (F:∀(w:World) (mg:Str→Option Value) (fa:Addr) (h:Heap),(K w.params).In h→h.Ns mainGlobals mg→mg d.name=some (.ref fa)→
  ∃fd:FuncData,(∀(s:Shared) (u:Value),BindsTo s fd ⟨[u],[]⟩ [(x,u)])∧
   ∀base:Heap,(K w.params).In base→base.Ns mainGlobals mg→FnOk l.prog w (K w.params) mg base (CX w) k fa fd [x] (sp w))
 (E8:∀(w:World) (H:Hp) (a:Addr) (ns:List Int),ns.length≤n→Fm H→SqL (K w.params) H a (ns.map V.int)→sp w [.ref a] H (fun v _=>v= .bl true) fun _ _ _=>False)
 (KL:∀(w:World) (H:Hp) (s:Shared) (e:Value) (s':Shared),CX w [] H s (fun _ _ _=>False) e s'→False):
 PySem.W.WalkO q loose XP YP l.row.toRowW d [] (fun f vs=>PySem.call f vs):=by
 refine Att.attach_call hn IH fun w s₀ s₁ mg mb fa o pm cd doc a vs ns G Y ho hd xN F8 A0 hints hlen hg=>?_
 have KX:=hY w _ Y
 obtain⟨fd,hb,hF⟩:=F w mg fa _ KX G.T.g F8
 exact uz KX G.T.g G.T.b G.T.builtins G.T.nolimit hg A0 hints (Nat.le_trans hlen Ke) hr hF hb (fun H hO hS=>E8 w H a ns hlen hO hS) fun H e s'=>KL w H s₁ e s'
abbrev NF:vH:=fun _ _ _ _ _ _=>False
structure Fun (K:W.Frag) (x qual:Str) (st:Stmt) (f:Addr) (fd:FuncData):Prop where
 ex:∃(oc:Value) (od:Option Addr) (kV doc pm:Value) (an:Option Addr) (bg ct:Value) (Fd:Array (Option Value)),
  fd=PySem.W.fnOf x qual (dN st) (aP st) (af st) .none kV doc pm an bg ct∧K.lookup f=some ⟨oc,od, .func fd,Fd⟩∧PySem.W.codeIn K bg qual=true
 kp:PySem.W.keepIn K (.ref f)=true
section
variable{P:Program}{w:World}{K:W.Frag}{mg:Str→Option Value}{base:Heap}
theorem Fun.binds{x qual:Str}{st:Stmt}{f:Addr}{fd:FuncData}{ps:List Str}(F:Fun K x qual st f fd)
 (h:∀(kV doc pm:Value) (an:Option Addr) (bg ct:Value) (us:List Value),us.length=ps.length→bindArgs (PySem.W.fnOf x qual (dN st) (aP st) (af st) .none kV doc pm an bg ct) ⟨us,[]⟩=pure (ps.zip us)):Binds K fd ps []:=by
 obtain⟨oc,od,kV,doc,pm,an,bg,ct,Fd,rfl,lk,xN⟩:=F.ex
 exact .all (h kV doc pm an bg ct)
theorem AJ{x qual:Str}{st:Stmt}{f:Addr}{oc:Value}{od an:Option Addr}{Fd:Array (Option Value)}{kV doc pm bg ct:Value}(l:K.lookup f=some ⟨oc,od, .func (PySem.W.fnOf x qual (dN st) (aP st) (af st) .none kV doc pm an bg ct),Fd⟩)
 (c:PySem.W.codeIn K bg qual=true)(k:PySem.W.keepIn K (.ref f)=true):Fun K x qual st f (PySem.W.fnOf x qual (dN st) (aP st) (af st) .none kV doc pm an bg ct):=⟨⟨oc,od,kV,doc,pm,an,bg,ct,Fd,rfl,l,c⟩,k⟩
end
section
variable{X:Cx}
theorem pv(i:Nat){x:Str}{pos:Pos}(hN:X.N[i]? =some x:=by rfl)(hv:KD X.env.scope x:=by first | exact Or.inl rfl | exact Or.inr (Or.inl rfl) | exact Or.inr (Or.inr rfl))(hd:(x==("__debug__":Str))=false:=by decide)
 (xN:(x==("__classdict__":Str))=false:=by decide):PE X (.Name x pos) (o4 i):=G7 hN hv hd xN
end
def Same(H H':Hp):Prop:=∀b o,H b=some o→H' b=some o
theorem Same.refl(H:Hp):Same H H:=fun _ _ h=>h
theorem Same.trans{H H1 H2:Hp}(a:Same H H1)(b:Same H1 H2):Same H H2:=fun c o h=>b c o (a c o h)
theorem Same.free{H H':Hp}(e:Same H H'){l:Addr}(h:H' l=Option.none):H l=Option.none:=by
 cases q:H l with
 |none=>rfl
 |some o=>
  rw[e l o q] at h
  cases h
theorem Same.seq{K:W.Frag}{H H':Hp}{a:Addr}{xs:List V}(e:Same H H')(h:SqL K H a xs):SqL K H' a xs:=by
 rcases h with(h | ⟨o,h⟩) | h
 ·exact .inl (.inl (e _ _ h))
 ·exact .inl (.inr ⟨o,e _ _ h⟩)
 ·exact .inr h
section
variable{κ:Type}[DecidableEq κ]
def kq(aw:List (κ×V))(k:κ):Option V:=(aw.find? fun kv=>decide (kv.1=k)).map (·.2)
def putK(aw:List (κ×V))(k:κ)(v:V):List (κ×V):=
 if (aw.any fun kv=>decide (kv.1=k))=true then aw.map (fun kv=>if kv.1=k then(kv.1,v) else kv) else aw++[(k,v)]
theorem ku{p:κ×V}{r:List (κ×V)}{k:κ}(e:p.1=k):kq (p::r) k=some p.2:=by simp[kq,List.find?_cons,e]
theorem kr{p:κ×V}{r:List (κ×V)}{k:κ}(e:¬p.1=k):kq (p::r) k=kq r k:=by simp[kq,List.find?_cons,e]
theorem o9(k:κ):∀aw:List (κ×V),(aw.any fun kv=>decide (kv.1=k))=(kq aw k).isSome
 |[]=>rfl
 |p::r=>by
  rw[List.any_cons]
  by_cases e:p.1=k
  ·simp only[ku e,decide_eq_true e,Bool.true_or,Option.isSome_some]
  ·rw[kr e,decide_eq_false e,Bool.false_or];exact o9 k r
theorem dW(aw:List (κ×V))(k:κ)(v:V):(putK aw k v).length≤aw.length+1:=by
 unfold putK
 split
 ·rw[List.length_map];omega
 ·rw[List.length_append,List.length_cons,List.length_nil];omega
theorem RelO.isSome_eq{o:Option V}{u:Option Value}(r:RelO o u):o.isSome=u.isSome:=by
 cases o with
 |none=>cases u with
  |none=>rfl
  |some _=>exact(show False from r).elim
 |some _=>cases u with
  |none=>exact(show False from r).elim
  |some _=>rfl
theorem RelO.getD{o:Option V}{u:Option Value}{d:V}{d':Value}(r:RelO o u)(rd:RelV d d'):RelV (o.getD d) (u.getD d'):=by
 cases o with
 |none=>cases u with
  |none=>exact rd
  |some _=>exact(show False from r).elim
 |some _=>cases u with
  |none=>exact(show False from r).elim
  |some _=>exact r
theorem KV.val{aw:List (κ×V)}{vs:List (κ×Value)}(r:KV aw vs)(k:κ):RelO (kq aw k) (valueAt vs k):=by
 unfold KV at r
 induction r with
 |nil=>exact True.intro
 | @cons p q ps qs h t ih=>
   obtain⟨h1,h2⟩:=h
   by_cases e:p.1=k
   ·have e':q.1=k:=h1.symm.trans e
    have b:valueAt (q::qs) k=some q.2:=by simp[valueAt,List.find?_cons,e']
    rw[ku e,b];exact h2
   ·have e':¬q.1=k:=fun z=>e (h1.trans z)
    have b:valueAt (q::qs) k=valueAt qs k:=by simp[valueAt,List.find?_cons,e']
    rw[kr e,b];exact ih
theorem KV.any{aw:List (κ×V)}{vs:List (κ×Value)}(r:KV aw vs)(k:κ):(aw.any fun kv=>decide (kv.1=k))=vs.any fun kv=>decide (kv.1=k):=by
 unfold KV at r
 induction r with
 |nil=>rfl
 |cons h t ih=>rw[List.any_cons,List.any_cons,ih,h.1]
theorem KV.repl{aw:List (κ×V)}{vs:List (κ×Value)}(r:KV aw vs)(k:κ){y:V}{u:Value}(ry:RelV y u):
 KV (aw.map fun kv=>if kv.1=k then(kv.1,y) else kv) (vs.map fun kv=>if kv.1=k then(kv.1,u) else kv):=by
 unfold KV at r⊢
 induction r with
 |nil=>exact .nil
 | @cons p q ps qs h t ih=>
   rw[List.map_cons,List.map_cons]
   refine .cons ?_ ih
   obtain⟨h1,h2⟩:=h
   by_cases e:p.1=k
   ·rw[if_pos e,if_pos (h1.symm.trans e)];exact⟨h1,ry⟩
   ·rw[if_neg e,if_neg (fun z=>e (h1.trans z))];exact⟨h1,h2⟩
theorem KV.put{aw:List (κ×V)}{vs:List (κ×Value)}(r:KV aw vs)(k:κ){y:V}{u:Value}(ry:RelV y u):KV (putK aw k y) (stored vs k u):=by
 unfold putK stored
 rw[r.any k]
 by_cases e:(vs.any fun kv=>decide (kv.1=k))=true
 ·rw[if_pos e,if_pos e];exact r.repl k ry
 ·rw[if_neg e,if_neg e];exact Paired.snoc r ⟨rfl,ry⟩
theorem KV.length{aw:List (κ×V)}{vs:List (κ×Value)}(r:KV aw vs):aw.length=vs.length:=Paired.length r
end
theorem nM{P:Program}{w:World}{k:Key}{u:Value}(r:RelV (kV k) u):(aV P w).is k u=true:=by
 cases k with
 |inl i=>obtain⟨t,e⟩:=(show∃t,u=Value.int i t from r);subst e;exact uC P w i t
 |inr x=>obtain⟨t,e⟩:=(show∃t,u=Value.str x t from r);subst e;exact uD P w x t
theorem Gs{a b:Key}(e:kV a=kV b):a=b:=by
 cases a with
 |inl i=>cases b with
  |inl j=>have e':V.int i=V.int j:=e;injection e' with e';rw[e']
  |inr y=>exact nomatch (show V.int i=V.str y from e)
 |inr x=>cases b with
  |inl j=>exact nomatch (show V.str x=V.int j from e)
  |inr y=>have e':V.str x=V.str y:=e;injection e' with e';rw[e']
theorem xZ:∀{a b:List Key},a.map kV=b.map kV→a=b
 |[],[],_=>rfl
 |[],_::_,e=>by simp at e
 |_::_,[],e=>by simp at e
 |x::xs,y::ys,e=>by
  rw[List.map_cons,List.map_cons] at e
  injection e with e1 e2
  rw[Gs e1,xZ e2]
theorem qo{P:Program}{w:World}:∀{ks:List Key}{us:List Value},Vals (ks.map kV) us→ItemsAre (aV P w) ks us
 |[],_,r=>by rw[List.map_nil] at r;cases r;exact .nil
 |k::ks,_,r=>by
  rw[List.map_cons] at r
  cases r with
  |cons h t=>exact .cons (nM h) (qo t)
abbrev KT(H:Hp):List (List Key×V)→List (List Key×Addr×Value)→Prop:=Paired fun p q=>p.1=q.1∧H q.2.1=some (.tup (p.1.map kV))∧RelV p.2 q.2.2
theorem KT.val{H:Hp}{aw:List (List Key×V)}{xs:List (List Key×Addr×Value)}(r:KT H aw xs)(k:List Key):RelO (kq aw k) ((atKey xs k).map (·.2)):=by
 induction r with
 |nil=>exact True.intro
 | @cons p q ps qs h t ih=>
   obtain⟨h1,_,h2⟩:=h
   by_cases e:p.1=k
   ·have e':q.1=k:=h1.symm.trans e
    have b:atKey (q::qs) k=some q.2:=by simp[atKey,List.find?_cons,e']
    rw[ku e,b];exact h2
   ·have e':¬q.1=k:=fun z=>e (h1.trans z)
    have b:atKey (q::qs) k=atKey qs k:=by simp[atKey,List.find?_cons,e']
    rw[kr e,b];exact ih
theorem KT.repl{H:Hp}{aw:List (List Key×V)}{xs:List (List Key×Addr×Value)}(r:KT H aw xs)(k:List Key){y:V}{u:Value}(ry:RelV y u):
 KT H (aw.map fun kv=>if kv.1=k then(kv.1,y) else kv) (xs.map (putAt k u)):=by
 induction r with
 |nil=>exact .nil
 | @cons p q ps qs h t ih=>
   rw[List.map_cons,List.map_cons]
   refine .cons ?_ ih
   obtain⟨h1,h2,h3⟩:=h
   unfold putAt
   by_cases e:p.1=k
   ·rw[if_pos e,if_pos (h1.symm.trans e)];exact⟨h1,h2,ry⟩
   ·rw[if_neg e,if_neg (fun z=>e (h1.trans z))];exact⟨h1,h2,h3⟩
theorem KT.put{H:Hp}{aw:List (List Key×V)}{xs:List (List Key×Addr×Value)}(r:KT H aw xs)(k:List Key){b:Addr}{y:V}{u:Value}(hb:H b=some (.tup (k.map kV)))(ry:RelV y u):
 KT H (putK aw k y) (storedH xs k b u):=by
 have e:(aw.any fun kv=>decide (kv.1=k))=(atKey xs k).isSome:=by
  rw[o9,(r.val k).isSome_eq,Option.isSome_map]
 unfold putK storedH
 rw[e]
 by_cases q:(atKey xs k).isSome=true
 ·rw[if_pos q,if_pos q];exact r.repl k ry
 ·rw[if_neg q,if_neg q];exact Paired.snoc r ⟨rfl,hb,ry⟩
theorem KT.keeps{H H':Hp}{aw:List (List Key×V)}{xs:List (List Key×Addr×Value)}(r:KT H aw xs)(ht:∀b ys,H b=some (.tup ys)→H' b=some (.tup ys)):KT H' aw xs:=
 Paired.mapP r fun _ _ z=>⟨z.1,ht _ _ z.2.1,z.2.2⟩
section
variable{P:Program}{w:World}{H:Hp}{h:Heap}{a:Addr}
theorem Fh{u:HO}(ok:HOk P w H h)(e:Rd H a u):ObjOk P w H h a u:=e.ok ok
theorem nq{aw:List (Key×V)}(ok:HOk P w H h)(e:Rd H a (.dK aw)):aw.length≤sizeLine∧(a==sysModules)=false∧∃vs,KV aw vs∧h.DictOf (aV P w) a vs:=
 show ObjOk P w H h a (.dK aw) from Fh ok e
theorem ES{aw:List (Key×V)}(ok:HOk P w H h)(e:H a=some (.dK aw)):aw.length≤sizeLine∧(a==sysModules)=false∧∃vs,KV aw vs∧h.DictOf (aV P w) a vs:=nq ok (.inl e)
theorem jd{ks:List Key}(ok:HOk P w H h)(e:H a=some (.tup (ks.map kV))):(tupleKind (aV P w)).is h ks a:=by
 obtain⟨_,aF,r,o,h1,h2,n,h3⟩:=(show ObjOk P w H h a (.tup (ks.map kV)) from ok a _ e)
 exact⟨o,aF.toArray,n,h1,h2,h3,by simpa using qo r⟩
theorem nr{aw:List (List Key×V)}(ok:HOk P w H h)(e:Rd H a (.dT aw)):aw.length≤sizeLine∧(a==sysModules)=false∧
 ∃xs,KT H aw xs∧h.DictOfH (tupleKind (aV P w)) a xs:=by
 obtain⟨z,y,xs,r,o,es,ep,h1,h2,h3,h4,h5⟩:=(show ObjOk P w H h a (.dT aw) from Fh ok e)
 refine⟨z,y,xs,r,o,es,ep,h1,h2,h3,h4,fun x hx=>?_,h5⟩
 have all:∀{l:List (List Key×V)}{m:List (List Key×Addr×Value)},KT H l m→∀x∈m,(tupleKind (aV P w)).is h x.1 x.2.1:=by
  intro l m q
  induction q with
  |nil=>intro x hx;exact nomatch hx
  | @cons p q ps qs hq t ih=>
    intro x hx
    rcases List.mem_cons.mp hx with e | hx
    ·subst e
     exact jd ok (by rw[←hq.1];exact hq.2.1)
    ·exact ih x hx
 exact all r x hx
theorem Ay{aw:List (List Key×V)}(ok:HOk P w H h)(e:H a=some (.dT aw)):aw.length≤sizeLine∧(a==sysModules)=false∧
 ∃xs,KT H aw xs∧h.DictOfH (tupleKind (aV P w)) a xs:=nr ok (.inl e)
end
def mx(H:Hp)(a:Addr)(y:V)(r:Option V):Prop:=
 (∃aw k,Rd H a (.dK aw)∧y=kV k∧r=kq aw k)∨∃aw k b,Rd H a (.dT aw)∧y= .ref b∧H b=some (.tup (k.map kV))∧r=kq aw k
def DPut(H:Hp)(a:Addr)(y v:V)(H':Hp):Prop:=
 (∃aw k,H a=some (.dK aw)∧y=kV k∧aw.length<sizeLine∧H'=upd H a (.dK (putK aw k v)))∨
 ∃aw k b,H a=some (.dT aw)∧y= .ref b∧H b=some (.tup (k.map kV))∧aw.length<sizeLine∧H'=upd H a (.dT (putK aw k v))
theorem DPut.k{H:Hp}{a:Addr}{aw:List (Key×V)}{k:Key}{v:V}(e:H a=some (.dK aw))(hl:aw.length<sizeLine):DPut H a (kV k) v (upd H a (.dK (putK aw k v))):= .inl ⟨aw,k,e,rfl,hl,rfl⟩
theorem DPut.t{H:Hp}{a b:Addr}{aw:List (List Key×V)}{k:List Key}{v:V}(e:H a=some (.dT aw))(eb:H b=some (.tup (k.map kV)))(hl:aw.length<sizeLine):
 DPut H a (.ref b) v (upd H a (.dT (putK aw k v))):= .inr ⟨aw,k,b,e,rfl,eb,hl,rfl⟩
section
variable{X:Cx}{pins:List (Addr×Obj)}{σ:St}{H:Hp}{s:Shared}{a:Addr}{y v:V}{u r:Value}{o:Option V}{A:Around}{E:Value→Shared→Prop}
theorem Inv.big(I:Inv X pins σ H s):sysModules<s.heap.objs.size:=by
 have h:mainGlobals<s.heap.objs.size:=(I.mod.glob.keeps I.bk).lt
 exact Nat.lt_trans (by decide) h
theorem KI{Q:Value→Shared→Prop}(hu:A.units+1<cLine)(I:Inv X pins σ H s)(g:mx H a y o)(ry:RelV y u)(h:∀s',Inv X pins σ H s'→Q (.bool o.isSome) s'):
 wpAny (model X.prog X.w) A (compareOp .In u (.ref a)) Q E s:=by
 rcases g with⟨aw,k,e,ey,l⟩ | ⟨aw,k,b,e,ey,eb,l⟩
 ·subst ey
  obtain⟨z,hd,vs,rel,dd⟩:=nq I.hok e
  refine wpAny_in_of (nM ry) hd dd.mapOf ?_
  rw[←(rel.val k).isSome_eq,←l]
  exact h _ (I.tok _)
 ·subst ey
  cases (show u=Value.ref b from ry)
  obtain⟨z,hd,xs,rel,dd⟩:=nr I.hok e
  refine wpAny_in_heap (tupleKind_room_in1 hu) (jd I.hok eb) hd dd ?_
  have q:=(rel.val k).isSome_eq
  rw[Option.isSome_map] at q
  rw[←q,←l]
  exact h _ (I.tok _)
theorem Dd{Q:Value→Shared→Prop}(hu:A.units+1<cLine)(I:Inv X pins σ H s)(g:mx H a y o)(ry:RelV y u)(h:∀s',Inv X pins σ H s'→Q (.bool (!o.isSome)) s'):
 wpAny (model X.prog X.w) A (compareOp .NotIn u (.ref a)) Q E s:=by
 rcases g with⟨aw,k,e,ey,l⟩ | ⟨aw,k,b,e,ey,eb,l⟩
 ·subst ey
  obtain⟨z,hd,vs,rel,dd⟩:=nq I.hok e
  refine wpAny_notIn_of (nM ry) hd dd.mapOf ?_
  rw[←(rel.val k).isSome_eq,←l]
  exact h _ (I.tok _)
 ·subst ey
  cases (show u=Value.ref b from ry)
  obtain⟨z,hd,xs,rel,dd⟩:=nr I.hok e
  refine wpAny_notIn_heap (tupleKind_room_in1 hu) (jd I.hok eb) hd dd ?_
  have q:=(rel.val k).isSome_eq
  rw[Option.isSome_map] at q
  rw[←q,←l]
  exact h _ (I.tok _)
theorem jy{h':Heap}{t':Nat}{ob:HO}(I:Inv X pins σ H s)(mu:HX (H a))(hs:Heap.SameBut a s.heap h')(he:∃q,h'.get? a=some q)(new:ObjOk X.prog X.w (upd H a ob) h' a ob):
 Inv X pins σ (upd H a ob) {s with heap:=h',toks:=t'}:=
 I.write (x:=a) (e:=a) mu (.inl rfl) (fun b q hb z=>(hs.2 b hb).trans z) he new
theorem Ax{P:Program}{w:World}{H':Hp}{h':Heap}{aw:List (Key×V)}{vs:List (Key×Value)}(z:aw.length≤sizeLine)(hd:(a==sysModules)=false)(rel:KV aw vs)(dd:h'.DictOf (aV P w) a vs):
 ObjOk P w H' h' a (.dK aw):=⟨z,hd,vs,rel,dd⟩
theorem yP{H':Hp}{Q:Unit→Shared→Prop}(hu:A.units+1<cLine)(I:Inv X pins σ H s)(g:DPut H a y v H')(ry:RelV y u)(rv:RelV v r)(h:∀s',Inv X pins σ H' s'→Q () s'):
 wpAny (model X.prog X.w) A (setItem (.ref a) u r) Q E s:=by
 rcases g with⟨aw,k,e,ey,l,eH⟩ | ⟨aw,k,b,e,ey,eb,l,eH⟩
 ·subst ey eH
  obtain⟨z,hd,vs,rel,dd⟩:=ES I.hok e
  have hz:vs.length≤sizeLine:=by rw[←rel.length];exact z
  have hl:(putK aw k v).length≤sizeLine:=by have:=dW aw k v;omega
  refine wpAny_setItem_pairs (hsz:=hz) (nM ry) dd fun h' Au hs=>h _ ?_
  have he:∃q,h'.get? a=some q:=let ⟨q,_,_,hq,_⟩:=Au;⟨q,hq⟩
  exact jy I (by rw[e];exact True.intro) hs he (Ax hl hd (rel.put k rv) Au)
 ·subst ey eH
  cases (show u=Value.ref b from ry)
  obtain⟨z,hd,xs,rel,dd⟩:=Ay I.hok e
  have hz:xs.length≤sizeLine:=by rw[←Paired.length rel];exact z
  have hl:(putK aw k v).length≤sizeLine:=by have:=dW aw k v;omega
  refine wpAny_setItem_heap (hsz:=hz) (tupleKind_room_in1 hu) (jd I.hok eb) dd fun h' Au hs=>h _ ?_
  obtain⟨q,es,ep,hq,h2,h3,h4,_,h5⟩:=Au
  refine jy I (by rw[e];exact True.intro) hs ⟨q,hq⟩ ⟨hl,hd,_,(rel.put k eb rv).keeps fun c ys ec=>?_,q,es,ep,hq,h2,h3,h4,h5⟩
  rw[av (Bo ec e (fun z=>nomatch z))]
  exact ec
end
section
variable{X:Cx}{pins:List (Addr×Obj)}{σ:St}{H:Hp}{s:Shared}{a:Addr}{aw:List (Key×V)}{k:Key}{u:Value}{A:Around}{E:Value→Shared→Prop}
theorem Ie{Q:Value→Shared→Prop}(I:Inv X pins σ H s)(e:Rd H a (.dK aw))(h:∀t s',Inv X pins σ H s'→Q (.int aw.length t) s'):wpAny (model X.prog X.w) A (call (.builtin "len") [.ref a]) Q E s:=by
 obtain⟨z,hd,vs,rel,dd⟩:=nq I.hok e
 refine call_len_dict hd dd (by rw[←rel.length];rw[sizeLine_eq] at z;omega) ?_
 rw[←rel.length]
 exact h _ _ (I.tok _)
end
def Mf(ty td:TE):TE:=fun σ H Q=>ty σ H fun y H1=>td σ H1 fun x H2=>∃a o,x= .ref a∧mx H2 a y o∧Q (.bl o.isSome) H2
def JP(td ty tv:TE):TS:=fun D σ H=>tv σ H fun v H1=>td σ H1 fun x H2=>ty σ H2 fun y H3=>∃a H4,x= .ref a∧DPut H3 a y v H4∧D.nx σ H4
section
variable{X:Cx}{o i e value:Expr}{pos pos' Mp:Pos}{td ty tv:TE}
theorem GL(hu:X.A.units+1<cLine)(hi:PE X i ty)(ho:PE X o td):PC X .In i o (Mf ty td):=by
 intro pins s σ H Q I h
 refine bG (hi pins s σ H _ I h) fun iv s1 ⟨y,H1,I1,ry,q1⟩=>bG (ho pins s1 σ H1 _ I1 q1) fun u s2 ⟨x,H2,I2,rx,a,ov,ex,g,q2⟩=>?_
 subst ex
 obtain rfl:u=Value.ref a:=rx
 exact KI hu I2 g ry fun s3 I3=>⟨.bl ov.isSome,H2,I3,rfl,q2⟩
theorem Eh(hu:X.A.units+1<cLine)(ho:PE X o td)(hi:PE X i ty)(hv:PE X value tv)(hs:swapsWith value (some (.Subscript o i pos')) pos.line X.env=pure false):
 PS X (.Assign [.Subscript o i pos'] value pos) (JP td ty tv):=by
 intro pins s σ H D I h
 refine wpAny_Assign_Subscript (bG (hv pins s σ H _ I h) fun r s1 ⟨v,H1,I1,rv,q1⟩=>bG (ho pins s1 σ H1 _ I1 q1) fun u s2 ⟨x,H2,I2,rx,q2⟩=>bG (hi pins s2 σ H2 _ I2 q2) fun iv s3 ⟨y,H3,I3,ry,a,H4,ex,g,q3⟩=>?_) hs
 subst ex
 obtain rfl:u=Value.ref a:=rx
 exact yP hu I3 g ry rv fun s4 I4=>⟨σ,H4,I4,q3⟩
end
theorem t6{P:Program}{w:World}{H:Hp}(h:Heap)(hb:sysModules<h.objs.size):ObjOk P w H (h.push {cls:= .type "dict",data:= .dict #[]}) h.objs.size (.dK []):=
 ⟨Nat.zero_le _,beq_eq_false_iff_ne.mpr (Ne.symm (Nat.ne_of_lt hb)),[], .nil,Heap.DictOf.new h⟩
theorem t7{P:Program}{w:World}{H:Hp}(h:Heap)(hb:sysModules<h.objs.size):ObjOk P w H (h.push {cls:= .type "dict",data:= .dict #[]}) h.objs.size (.dT []):=
 ⟨Nat.zero_le _,beq_eq_false_iff_ne.mpr (Ne.symm (Nat.ne_of_lt hb)),[], .nil,_,#[],0,Heap.get?_push_size _ rfl,⟨rfl,rfl,rfl⟩,rfl,rfl,List.nodup_nil⟩
def Hw:TE:=fun _ H Q=>∀p,H p=none→Q (.ref p) (upd H p (.dK []))
def Hx:TE:=fun _ H Q=>∀p,H p=none→Q (.ref p) (upd H p (.dT []))
section
variable{X:Cx}{pos:Pos}
theorem BS:PE X (.Dict [] [] pos) Hw:=fun pins s σ H Q I h=>
 wpAny_Dict_empty ⟨.ref s.heap.objs.size,_,I.laid (a:=s.heap.objs.size) (o:= .dK []) (t':=s.toks) (fun _ _ q=>Heap.get?_push_of_some _ q) (Nat.le_refl _) (t6 s.heap I.big),rfl,h _ (I.hok.fresh (Nat.le_refl _))⟩
theorem BU:PE X (.Dict [] [] pos) Hx:=fun pins s σ H Q I h=>
 wpAny_Dict_empty ⟨.ref s.heap.objs.size,_,I.laid (a:=s.heap.objs.size) (o:= .dT []) (t':=s.toks) (fun _ _ q=>Heap.get?_push_of_some _ q) (Nat.le_refl _) (t7 s.heap I.big),rfl,h _ (I.hok.fresh (Nat.le_refl _))⟩
end
def CI:List (TE×TE)→St→Hp→(List (V×V)→Hp→Prop)→Prop
 |[],_,H,Q=>Q [] H
 |(tk,tv)::r,σ,H,Q=>tk σ H fun x H1=>tv σ H1 fun y H2=>CI r σ H2 fun ps H3=>Q ((x,y)::ps) H3
abbrev VV:List (V×V)→List (Value×Value)→Prop:=Paired fun p q=>RelV p.1 q.1∧RelV p.2 q.2
def Ky(X:Cx)(pos:Pos)(keys:List (Option Expr))(values:List Expr)(Kq:List (TE×TE)):Prop:=
 ∀(pins:List (Addr×Obj)) (s:Shared) (σ:St) (H:Hp) (Q:List (V×V)→Hp→Prop),Inv X pins σ H s→CI Kq σ H Q→
  wpAny (model X.prog X.w) X.A (evalPairs (pairTrees keys values X.env pos)) (fun vs s'=>∃ps H',Inv X pins σ H' s'∧VV ps vs∧Q ps H') X.xe s
theorem ym{X:Cx}{pos:Pos}:Ky X pos [] [] []:=fun pins s σ H Q I h=>pairTrees_nil_walk ⟨[],H,I, .nil,h⟩
theorem oI{X:Cx}{pos:Pos}{k v:Expr}{ks:List (Option Expr)}{vs:List Expr}{tk tv:TE}{Kq:List (TE×TE)}(hk:PE X k tk)(hv:PE X v tv)(hr:Ky X pos ks vs Kq):
 Ky X pos (some k::ks) (v::vs) ((tk,tv)::Kq):=fun pins s σ H Q I h=>
 pairTrees_cons_walk (bG (hk pins s σ H _ I h) fun u s1 ⟨x,H1,I1,rx,q1⟩=>bG (hv pins s1 σ H1 _ I1 q1) fun w2 s2 ⟨y,H2,I2,ry,q2⟩=>
  bG (hr pins s2 σ H2 _ I2 q2) fun ws s3 ⟨ps,H3,I3,rel,q3⟩=>⟨(x,y)::ps,H3,I3, .cons ⟨rx,ry⟩ rel,q3⟩)
structure M1 (X:Cx) (o:Expr) (m:Str) (apos:Pos) (e:Expr) (a6:Pos):Prop where
 base:attributeBase o m X.env (eval o X.env)=eval o X.env
 few:((backTo a6 (starEach [e] X.env)).all (fun x=>!x.1)&&(backToKw a6 (keywordEach [] X.env)).all (fun x=>x.1.isSome)
  &&decide (([e]:List Expr).length+([]:List Keyword).length+(if ([]:List Keyword).isEmpty then 0 else 1)<30))=true
 line:(apos.endLine==a6.line)=true
 trees:backTo a6 (starEach [e] X.env)=[(false,eval e X.env)]
structure M2 (X:Cx) (o:Expr) (m:Str) (apos:Pos) (e f:Expr) (a6:Pos):Prop where
 base:attributeBase o m X.env (eval o X.env)=eval o X.env
 few:((backTo a6 (starEach [e,f] X.env)).all (fun x=>!x.1)&&(backToKw a6 (keywordEach [] X.env)).all (fun x=>x.1.isSome)
  &&decide (([e,f]:List Expr).length+([]:List Keyword).length+(if ([]:List Keyword).isEmpty then 0 else 1)<30))=true
 line:(apos.endLine==a6.line)=true
 trees:backTo a6 (starEach [e,f] X.env)=[(false,eval e X.env),(false,eval f X.env)]
def HS(H:Hp)(a:Addr):Prop:=(∃aw,Rd H a (.dK aw))∨∃aw,Rd H a (.dT aw)
theorem v9{X:Cx}{pins:List (Addr×Obj)}{σ:St}{H:Hp}{s:Shared}{a:Addr}(I:Inv X pins σ H s)(d:HS H a):
 s.TypeIs (.ref a) "dict"∧(∀b,Value.ref a= .ref b→∃ob,s.heap.get? b=some ob∧ob.dict=none)∧(a==sysModules)=false:=by
 rcases d with⟨aw,e⟩ | ⟨aw,e⟩
 ·obtain⟨_,hd,vs,_,dd⟩:=nq I.hok e
  refine⟨dd.typeIs,fun b q=>?_,hd⟩
  cases q
  obtain⟨ob,_,_,h1,h2,_⟩:=dd
  exact⟨ob,h1,h2.2.1⟩
 ·obtain⟨_,hd,xs,_,dd⟩:=nr I.hok e
  refine⟨dd.typeIs,fun b q=>?_,hd⟩
  cases q
  obtain⟨ob,_,_,h1,h2,_⟩:=dd
  exact⟨ob,h1,h2.2.1⟩
section
variable{X:Cx}{pins:List (Addr×Obj)}{σ:St}{H:Hp}{s:Shared}{a:Addr}{y d:V}{u r:Value}{o:Option V}{A:Around}{E:Value→Shared→Prop}
theorem Fy{Q:Value→Shared→Prop}(hu:A.units+1<cLine)(I:Inv X pins σ H s)(g:mx H a y o)(ry:RelV y u)(h:∀w' s',Inv X pins σ H s'→RelV (o.getD .non) w'→Q w' s'):
 wpAny (model X.prog X.w) A (call (.builtin "dict.get") [.ref a,u]) Q E s:=by
 rcases g with⟨aw,k,e,ey,l⟩ | ⟨aw,k,b,e,ey,eb,l⟩
 ·subst ey
  obtain⟨z,hd,vs,rel,dd⟩:=nq I.hok e
  refine call_meetsIn PySem.F.slot_dict_get dd.typeIs PySem.F.entry_dict_get (PySem.F.args_dict_get_2 _ _) (meets_dict_get (aV X.prog X.w) a (nM ry) hd) ⟨_,dd.mapOf,h _ _ (I.tok _) ?_⟩
  rw[l]
  exact(rel.val k).getD rfl
 ·subst ey
  cases (show u=Value.ref b from ry)
  obtain⟨z,hd,xs,rel,dd⟩:=nr I.hok e
  refine call_meetsIn PySem.F.slot_dict_get dd.typeIs PySem.F.entry_dict_get (PySem.F.args_dict_get_2 _ _) (meetsH_dict_get (tupleKind (aV X.prog X.w)) a b hd) ⟨tupleKind_room_in1 hu,k,xs,jd I.hok eb,dd,h _ _ (I.tok _) ?_⟩
  rw[l]
  exact(rel.val k).getD rfl
theorem Fz{Q:Value→Shared→Prop}(hu:A.units+1<cLine)(I:Inv X pins σ H s)(g:mx H a y o)(ry:RelV y u)(rd:RelV d r)(h:∀w' s',Inv X pins σ H s'→RelV (o.getD d) w'→Q w' s'):
 wpAny (model X.prog X.w) A (call (.builtin "dict.get") [.ref a,u,r]) Q E s:=by
 rcases g with⟨aw,k,e,ey,l⟩ | ⟨aw,k,b,e,ey,eb,l⟩
 ·subst ey
  obtain⟨z,hd,vs,rel,dd⟩:=nq I.hok e
  refine call_meetsIn PySem.F.slot_dict_get dd.typeIs PySem.F.entry_dict_get (PySem.F.args_dict_get_3 _ _ _) (meets_dict_get_default (aV X.prog X.w) a (nM ry) hd r) ⟨_,dd.mapOf,h _ _ (I.tok _) ?_⟩
  rw[l]
  exact(rel.val k).getD rd
 ·subst ey
  cases (show u=Value.ref b from ry)
  obtain⟨z,hd,xs,rel,dd⟩:=nr I.hok e
  refine call_meetsIn PySem.F.slot_dict_get dd.typeIs PySem.F.entry_dict_get (PySem.F.args_dict_get_3 _ _ _) (meetsH_dict_get_default (tupleKind (aV X.prog X.w)) a b hd r) ⟨tupleKind_room_in1 hu,k,xs,jd I.hok eb,dd,h _ _ (I.tok _) ?_⟩
  rw[l]
  exact(rel.val k).getD rd
end
def Hu(td ty:TE):TE:=fun σ H Q=>td σ H fun x H1=>∃a,x= .ref a∧HS H1 a∧ty σ H1 fun y H2=>∃o,mx H2 a y o∧Q (o.getD .non) H2
def Hv(td ty tx:TE):TE:=fun σ H Q=>td σ H fun x H1=>∃a,x= .ref a∧HS H1 a∧ty σ H1 fun y H2=>tx σ H2 fun z H3=>∃o,mx H3 a y o∧Q (o.getD z) H3
section
variable{X:Cx}{o e f:Expr}{apos a6:Pos}{td ty tx:TE}
theorem BQ(hu:X.A.units+1<cLine)(ho:PE X o td)(he:PE X e ty)(m:M1 X o "get" apos e a6):PE X (.Call (.Attribute o "get" apos) [e] [] a6) (Hu td ty):=by
 intro pins s σ H Q I h
 refine wpAny_Call_method m.base m.few m.line PySem.F.plainAttrs_dict PySem.F.slot_dict_get PySem.F.type_dict_get (bG (ho pins s σ H _ I h) fun u s1 ⟨x,H1,I1,rx,a,ex,d,q1⟩=>?_)
 subst ex
 obtain rfl:u=Value.ref a:=rx
 obtain⟨t1,t2,_⟩:=v9 I1 d
 refine⟨t1,t2,?_⟩
 rw[m.trees]
 refine Calls.callWith_builtin rfl (Calls.evalArgs_plain (Calls.spliced_cons (bG (he pins s1 σ H1 _ I1 q1) fun iv s2 ⟨y,H2,I2,ry,ov,g,q2⟩=>Calls.spliced_nil ?_)))
 exact Fy hu I2 g ry fun w' s3 I3 C4=>⟨_,H2,I3,C4,q2⟩
theorem BR(hu:X.A.units+1<cLine)(ho:PE X o td)(he:PE X e ty)(hf:PE X f tx)(m:M2 X o "get" apos e f a6):PE X (.Call (.Attribute o "get" apos) [e,f] [] a6) (Hv td ty tx):=by
 intro pins s σ H Q I h
 refine wpAny_Call_method m.base m.few m.line PySem.F.plainAttrs_dict PySem.F.slot_dict_get PySem.F.type_dict_get (bG (ho pins s σ H _ I h) fun u s1 ⟨x,H1,I1,rx,a,ex,d,q1⟩=>?_)
 subst ex
 obtain rfl:u=Value.ref a:=rx
 obtain⟨t1,t2,_⟩:=v9 I1 d
 refine⟨t1,t2,?_⟩
 rw[m.trees]
 refine Calls.callWith_builtin rfl (Calls.evalArgs_plain (Calls.spliced_cons (bG (he pins s1 σ H1 _ I1 q1) fun iv s2 ⟨y,H2,I2,ry,q2⟩=>
  Calls.spliced_cons (bG (hf pins s2 σ H2 _ I2 q2) fun fv s3 ⟨z,H3,I3,rz,ov,g,q3⟩=>Calls.spliced_nil ?_))))
 exact Fz hu I3 g ry rz fun w' s4 I4 C4=>⟨_,H3,I4,C4,q3⟩
end
section
variable{X:Cx}{pins:List (Addr×Obj)}{σ:St}{H:Hp}{s:Shared}{a:Addr}{aw:List (Key×V)}{A:Around}{E:Value→Shared→Prop}
end
section
variable{X:Cx}{pins:List (Addr×Obj)}{σ:St}{H:Hp}{s:Shared}{a:Addr}{y:V}{u:Value}{A:Around}{E:Value→Shared→Prop}
end
end L2
namespace L3
open PySem PySem.Spec L2
open PyProof.Rows hiding St
inductive Rs (α:Type) where
 |ok (a:α) | ex (n:Nat)
def M(α:Type):=Option (Rs α)
def M.ret{α:Type}(a:α):M α:=some (.ok a)
def M.bind{α β:Type}(m:M α)(k:α→M β):M β:=match m with
 |none=>none
 |some (.ex n)=>some (.ex n)
 |some (.ok a)=>k a
def M.stuck{α:Type}:M α:=none
def M.raise{α:Type}(n:Nat):M α:=some (.ex n)
instance:Monad M where
 pure:=M.ret
 bind:=M.bind
@[simp] theorem aj{α β:Type}(a:α)(k:α→M β):(M.ret a>>=k)=k a:=rfl
@[simp] theorem Fs{α β:Type}(a:α)(k:α→M β):((pure a:M α)>>=k)=k a:=rfl
@[simp] theorem Ft{α β:Type}(n:Nat)(k:α→M β):(M.raise n>>=k)=M.raise n:=rfl
@[simp] theorem Fu{α β:Type}(k:α→M β):((M.stuck:M α)>>=k)=M.stuck:=rfl
theorem M.cs{α:Type}(m:M α):m=M.stuck∨(∃n,m=M.raise n)∨∃a,m=M.ret a:=by
 match m with
 |none=>exact .inl rfl
 |some (.ex n)=>exact .inr (.inl ⟨n,rfl⟩)
 |some (.ok a)=>exact .inr (.inr ⟨a,rfl⟩)
theorem er{α:Type}{a b:α}(h:M.ret a=M.ret b):a=b:=by
 have h:some (Rs.ok a)=some (Rs.ok b):=h
 cases h
 rfl
theorem eS{α:Type}{a:α}(h:M.stuck=M.ret a):False:=by
 have h:none=some (Rs.ok a):=h
 cases h
theorem B9{α:Type}{n:Nat}{a:α}(h:M.raise n=M.ret a):False:=by
 have h:some (Rs.ex n)=some (Rs.ok a):=h
 cases h
theorem f7{α β:Type}{m:M α}{k:α→M β}{r:β}(h:(m>>=k)=M.ret r):∃a,m=M.ret a∧k a=M.ret r:=by
 rcases m.cs with e | ⟨n,e⟩ | ⟨a,e⟩
 ·subst e;exact(eS h).elim
 ·subst e;exact(B9 h).elim
 ·subst e;exact⟨a,rfl,h⟩
def HU(h:Heap)(ea D:Addr):Prop:=∃ox,h.get? ea=some ox∧ox.cls= .ref D
def NG(ea D:Addr):HO:= .ext fun h=>HU h ea D
inductive D where
 |non | bl (b:Bool) | int (i:Int) | str (x:Str) | raw (v:V) | exc (C:Addr) | scr (l:List Int) | tup (l:List D) | lst (l:List D)
 |dct (ks:List (List Key)) (l:List D) | dci (ks:List Key) (l:List D)
instance:Inhabited D:=⟨.non⟩
def lim:Nat:=4096
theorem dH:lim<sizeLine:=by rw[sizeLine_eq];decide
mutual
def Den(K:W.Frag)(F:Hp):D→V→Prop
 | .non,v=>v= .non
 | .bl b,v=>v= .bl b
 | .int i,v=>v= .int i
 | .str x,v=>v= .str x∧x.length≤lim
 | .raw u,v=>v=u
 | .exc C,v=>∃ea,v= .ref ea∧F ea=some (NG ea C)
 | .scr ns,v=>∃a,v= .ref a∧SqL K F a (ns.map V.int)∧ns.length≤lim
 | .tup ds,v=>∃a vs,v= .ref a∧F a=some (.tup vs)∧DenL K F ds vs∧ds.length≤lim
 | .lst ds,v=>∃a vs,v= .ref a∧F a=some (.lst vs)∧DenL K F ds vs∧ds.length≤lim
 | .dct ks ds,v=>∃a ob vs,v= .ref a∧F a=some (.frz ob (.dT (ks.zip vs)))∧DenL K F ds vs∧ks.length=ds.length∧ds.length≤lim
 | .dci ks ds,v=>∃a ob vs,v= .ref a∧F a=some (.frz ob (.dK (ks.zip vs)))∧DenL K F ds vs∧ks.length=ds.length∧ds.length≤lim
def DenL(K:W.Frag)(F:Hp):List D→List V→Prop
 |[],vs=>vs=[]
 |d::ds,vs=>∃v r,vs=v::r∧Den K F d v∧DenL K F ds r
end
theorem Same.rd{H H':Hp}{a:Addr}{u:HO}(e:Same H H')(h:Rd H a u):Rd H' a u:=by
 rcases h with h | ⟨o,h⟩
 ·exact .inl (e _ _ h)
 ·exact .inr ⟨o,e _ _ h⟩
theorem Same.tup{K:W.Frag}{H H':Hp}{a:Addr}{xs:List V}(e:Same H H')(h:SqT K H a xs):SqT K H' a xs:=by
 rcases h with h | h
 ·exact .inl (Same.rd e h)
 ·exact .inr h
section
variable{K:W.Frag}{F F':Hp}
mutual
theorem Den.mono(e:Same F F'):∀{d:D}{v:V},Den K F d v→Den K F' d v
 | .non,_,h=>h
 | .bl _,_,h=>h
 | .int _,_,h=>h
 | .str _,_,h=>h
 | .raw _,_,h=>h
 | .exc _,_,⟨a,h1,h2⟩=>⟨a,h1,e _ _ h2⟩
 | .scr _,_,⟨a,h1,h2,h3⟩=>⟨a,h1,Same.seq e h2,h3⟩
 | .tup _,_,⟨a,vs,h1,h2,h3,h4⟩=>⟨a,vs,h1,e _ _ h2,DenL.mono e h3,h4⟩
 | .lst _,_,⟨a,vs,h1,h2,h3,h4⟩=>⟨a,vs,h1,e _ _ h2,DenL.mono e h3,h4⟩
 | .dct _ _,_,⟨a,ob,vs,h1,h2,h3,h4⟩=>⟨a,ob,vs,h1,e _ _ h2,DenL.mono e h3,h4⟩
 | .dci _ _,_,⟨a,ob,vs,h1,h2,h3,h4⟩=>⟨a,ob,vs,h1,e _ _ h2,DenL.mono e h3,h4⟩
theorem DenL.mono(e:Same F F'):∀{ds:List D}{vs:List V},DenL K F ds vs→DenL K F' ds vs
 |[],_,h=>h
 |_::_,_,⟨v,r,h1,h2,h3⟩=>⟨v,r,h1,Den.mono e h2,DenL.mono e h3⟩
end
theorem DenL.nil:DenL K F [] []:=rfl
theorem DenL.cons{d:D}{v:V}{ds:List D}{vs:List V}(h:Den K F d v)(r:DenL K F ds vs):DenL K F (d::ds) (v::vs):=⟨v,vs,rfl,h,r⟩
theorem DenL.len:∀{ds:List D}{vs:List V},DenL K F ds vs→ds.length=vs.length
 |[],_,h=>by cases (show _=_ from h);rfl
 |_::ds,_,⟨v,r,h1,_,h3⟩=>by subst h1;rw[List.length_cons,List.length_cons,DenL.len h3]
theorem DenL.get:∀{ds:List D}{vs:List V}{i:Nat}{d:D},DenL K F ds vs→ds[i]? =some d→∃v,vs[i]? =some v∧Den K F d v
 |[],_,_,_,_,e=>by simp at e
 |d::ds,_,0,_,⟨v,r,h1,h2,h3⟩,e=>by subst h1;simp at e;subst e;exact⟨v,rfl,h2⟩
 |d::ds,_,i+1,_,⟨v,r,h1,h2,h3⟩,e=>by
  subst h1
  obtain⟨w,e1,e2⟩:=DenL.get (i:=i) h3 (by simpa using e)
  exact⟨w,by simpa using e1,e2⟩
theorem DenL.at:∀{ds:List D}{vs:List V}{i:Nat}{v:V},DenL K F ds vs→vs[i]? =some v→∃d,ds[i]? =some d∧Den K F d v
 |[],_,_,_,h,e=>by cases (show _=_ from h);simp at e
 |d::ds,_,0,_,⟨v,r,h1,h2,h3⟩,e=>by subst h1;simp at e;subst e;exact⟨d,rfl,h2⟩
 |d::ds,_,i+1,_,⟨v,r,h1,h2,h3⟩,e=>by
  subst h1
  obtain⟨w,e1,e2⟩:=DenL.at (i:=i) h3 (by simpa using e)
  exact⟨w,by simpa using e1,e2⟩
theorem DenL.append:∀{ds es:List D}{vs ws:List V},DenL K F ds vs→DenL K F es ws→DenL K F (ds++es) (vs++ws)
 |[],_,_,_,h,h'=>by cases (show _=_ from h);exact h'
 |d::ds,_,_,_,⟨v,r,h1,h2,h3⟩,h'=>by subst h1;exact⟨v,_,rfl,h2,DenL.append h3 h'⟩
theorem DenL.take:∀{ds:List D}{vs:List V}(n:Nat),DenL K F ds vs→DenL K F (ds.take n) (vs.take n)
 |_,_,0,_=>by simp[List.take];rfl
 |[],_,_+1,h=>by cases (show _=_ from h);rfl
 |d::ds,_,n+1,⟨v,r,h1,h2,h3⟩=>by subst h1;exact⟨v,_,rfl,h2,DenL.take n h3⟩
theorem DenL.drop:∀{ds:List D}{vs:List V}(n:Nat),DenL K F ds vs→DenL K F (ds.drop n) (vs.drop n)
 |_,_,0,h=>by simpa using h
 |[],_,_+1,h=>by cases (show _=_ from h);rfl
 |d::ds,_,n+1,⟨v,r,h1,h2,h3⟩=>by subst h1;exact DenL.drop n h3
theorem DenL.reverse:∀{ds:List D}{vs:List V},DenL K F ds vs→DenL K F ds.reverse vs.reverse
 |[],_,h=>by cases (show _=_ from h);rfl
 |d::ds,_,⟨v,r,h1,h2,h3⟩=>by
  subst h1
  rw[List.reverse_cons,List.reverse_cons]
  exact DenL.append (DenL.reverse h3) (.cons h2 .nil)
theorem DenL.ints(ns:List Int):DenL K F (ns.map D.int) (ns.map V.int):=by
 induction ns with
 |nil=>rfl
 |cons n ns ih=>exact .cons rfl ih
end
structure Ext (F H F' H':Hp):Prop where
 hh:Same H H'
 ff:Same F F'
 fh:Same F' H'
 new:∀a,H a≠none→F' a=F a∨∃ts,H a=some (.tup ts)
theorem Ext.old{F H F' H':Hp}(e:Ext F H F' H'){a:Addr}{o:HO}(h:H a=some o)(hn:∀ts,o≠ .tup ts):F' a=F a:=by
 rcases e.new a (by rw[h];exact fun z=>nomatch z) with q | ⟨ts,q⟩
 ·exact q
 ·rw[h] at q;cases q;exact absurd rfl (hn ts)
theorem Ext.refl{F H:Hp}(h:Same F H):Ext F H F H:=⟨Same.refl _,Same.refl _,h,fun _ _=> .inl rfl⟩
theorem Ext.trans{F H F' H' F'' H'':Hp}(a:Ext F H F' H')(b:Ext F' H' F'' H''):Ext F H F'' H'':=
 ⟨a.hh.trans b.hh,a.ff.trans b.ff,b.fh,fun c hc=>by
  have:H' c≠none:=by
   cases q:H c with
   |none=>exact absurd q hc
   |some o=>rw[a.hh c o q];exact fun z=>nomatch z
  rcases a.new c hc with p | p
  ·rcases b.new c this with q | ⟨ts,q⟩
   ·exact .inl (q.trans p)
   ·cases z:H c with
    |none=>exact absurd z hc
    |some o=>
     rw[a.hh c o z] at q
     exact .inr ⟨ts,q⟩
  ·exact .inr p⟩
theorem Ext.lay{F H:Hp}{a:Addr}{o:HO}(h:Same F H)(n:H a=none):Ext F H (upd F a o) (upd H a o):=by
 have nf:F a=none:=Same.free h n
 refine⟨fun b u e=>?_,fun b u e=>?_,fun b u e=>?_,fun b hb=>?_⟩
 ·rw[av (bN e n)];exact e
 ·rw[av (bN e nf)];exact e
 ·by_cases q:b=a
  ·subst q;rw[az] at e⊢;exact e
  ·rw[av q] at e⊢;exact h b u e
 ·exact .inl (av fun z=>hb (by rw[z];exact n))
theorem Ext.free{F H:Hp}{a:Addr}{o:HO}(h:Same F H)(n:H a=none):Ext F H F (upd H a o):=
 ⟨fun b u e=>by rw[av (bN e n)];exact e,Same.refl _,fun b u e=>by rw[av (bN (h b u e) n)];exact h b u e,fun _ _=> .inl rfl⟩
theorem Ext.tup{F H:Hp}{a:Addr}{ts:List V}(h:Same F H)(e:H a=some (.tup ts)):Ext F H (upd F a (.tup ts)) H:=by
 refine⟨Same.refl _,fun b u q=>?_,fun b u q=>?_,fun b hb=>?_⟩
 ·by_cases z:b=a
  ·subst z;rw[az,←e];exact h b u q
  ·rw[av z];exact q
 ·by_cases z:b=a
  ·subst z;rw[az] at q;rw[e];exact q
  ·rw[av z] at q;exact h b u q
 ·by_cases z:b=a
  ·subst z;exact .inr ⟨ts,e⟩
  ·exact .inl (av z)
def WP(K:W.Frag)(Xw:Nat→Hp→Prop)(F H:Hp)(m:M D)(Q:VK):Prop:=
 match m with
 |none=>False
 |some (.ok d)=>∀v H' F',Ext F H F' H'→Den K F' d v→Q v H'
 |some (.ex n)=>∀F' H',Ext F H F' H'→Xw n H'
def WPL(K:W.Frag)(Xw:Nat→Hp→Prop)(F H:Hp)(m:M (List D))(Q:List V→Hp→Prop):Prop:=
 match m with
 |none=>False
 |some (.ok ds)=>∀vs H' F',Ext F H F' H'→DenL K F' ds vs→Q vs H'
 |some (.ex n)=>∀F' H',Ext F H F' H'→Xw n H'
def WPB(Xw:Nat→Hp→Prop)(F H:Hp)(m:M Bool)(Q:Bool→Hp→Prop):Prop:=
 match m with
 |none=>False
 |some (.ok b)=>∀H' F',Ext F H F' H'→Q b H'
 |some (.ex n)=>∀F' H',Ext F H F' H'→Xw n H'
section
variable{K:W.Frag}{Xw:Nat→Hp→Prop}{F F' H H':Hp}{Q:VK}
theorem WP.ext{m:M D}(e:Ext F H F' H')(h:WP K Xw F H m Q):WP K Xw F' H' m Q:=by
 match m,h with
 |none,h=>exact h
 |some (.ok d),h=>exact fun v H2 F2 e2 q=>h v H2 F2 (e.trans e2) q
 |some (.ex n),h=>exact fun F2 H2 e2=>h F2 H2 (e.trans e2)
theorem WPL.ext{m:M (List D)}{Q:List V→Hp→Prop}(e:Ext F H F' H')(h:WPL K Xw F H m Q):WPL K Xw F' H' m Q:=by
 match m,h with
 |none,h=>exact h
 |some (.ok d),h=>exact fun v H2 F2 e2 q=>h v H2 F2 (e.trans e2) q
 |some (.ex n),h=>exact fun F2 H2 e2=>h F2 H2 (e.trans e2)
theorem WPB.ext{m:M Bool}{Q:Bool→Hp→Prop}(e:Ext F H F' H')(h:WPB Xw F H m Q):WPB Xw F' H' m Q:=by
 match m,h with
 |none,h=>exact h
 |some (.ok d),h=>exact fun H2 F2 e2=>h H2 F2 (e.trans e2)
 |some (.ex n),h=>exact fun F2 H2 e2=>h F2 H2 (e.trans e2)
theorem WP.fin{d:D}{v:V}(h:WP K Xw F H (M.ret d) Q)(e:Ext F H F' H')(q:Den K F' d v):Q v H':=h v H' F' e q
theorem WP.now{d:D}{v:V}(h:WP K Xw F H (M.ret d) Q)(s:Same F H)(q:Den K F d v):Q v H:=h v H F (Ext.refl s) q
theorem WP.bind{m:M D}{k:D→M D}(h:WP K Xw F H (m>>=k) Q):WP K Xw F H m fun v H1=>∃F1 d,Ext F H F1 H1∧Den K F1 d v∧WP K Xw F1 H1 (k d) Q:=by
 match m,h with
 |none,h=>exact h
 |some (.ok d),h=>exact fun v H2 F2 e2 q=>⟨F2,d,e2,q,WP.ext e2 (show WP K Xw F H (k d) Q from h)⟩
 |some (.ex n),h=>exact h
theorem WP.bindL{m:M (List D)}{k:List D→M D}(h:WP K Xw F H (m>>=k) Q):WPL K Xw F H m fun vs H1=>∃F1 ds,Ext F H F1 H1∧DenL K F1 ds vs∧WP K Xw F1 H1 (k ds) Q:=by
 match m,h with
 |none,h=>exact h
 |some (.ok d),h=>exact fun v H2 F2 e2 q=>⟨F2,d,e2,q,WP.ext e2 (show WP K Xw F H (k d) Q from h)⟩
 |some (.ex n),h=>exact h
theorem WPB.bind{m:M D}{k:D→M Bool}{Q:Bool→Hp→Prop}(h:WPB Xw F H (m>>=k) Q):WP K Xw F H m fun v H1=>∃F1 d,Ext F H F1 H1∧Den K F1 d v∧WPB Xw F1 H1 (k d) Q:=by
 match m,h with
 |none,h=>exact h
 |some (.ok d),h=>exact fun v H2 F2 e2 q=>⟨F2,d,e2,q,WPB.ext e2 (show WPB Xw F H (k d) Q from h)⟩
 |some (.ex n),h=>exact h
theorem WPB.bindB{m:M Bool}{k:Bool→M Bool}{Q:Bool→Hp→Prop}(h:WPB Xw F H (m>>=k) Q):WPB Xw F H m fun b H1=>∃F1,Ext F H F1 H1∧WPB Xw F1 H1 (k b) Q:=by
 match m,h with
 |none,h=>exact h
 |some (.ok d),h=>exact fun H2 F2 e2=>⟨F2,e2,WPB.ext e2 (show WPB Xw F H (k d) Q from h)⟩
 |some (.ex n),h=>exact h
theorem WPL.bind{m:M D}{k:D→M (List D)}{Q:List V→Hp→Prop}(h:WPL K Xw F H (m>>=k) Q):WP K Xw F H m fun v H1=>∃F1 d,Ext F H F1 H1∧Den K F1 d v∧WPL K Xw F1 H1 (k d) Q:=by
 match m,h with
 |none,h=>exact h
 |some (.ok d),h=>exact fun v H2 F2 e2 q=>⟨F2,d,e2,q,WPL.ext e2 (show WPL K Xw F H (k d) Q from h)⟩
 |some (.ex n),h=>exact h
theorem WPL.bindL{m:M (List D)}{k:List D→M (List D)}{Q:List V→Hp→Prop}(h:WPL K Xw F H (m>>=k) Q):WPL K Xw F H m fun vs H1=>∃F1 ds,Ext F H F1 H1∧DenL K F1 ds vs∧WPL K Xw F1 H1 (k ds) Q:=by
 match m,h with
 |none,h=>exact h
 |some (.ok d),h=>exact fun v H2 F2 e2 q=>⟨F2,d,e2,q,WPL.ext e2 (show WPL K Xw F H (k d) Q from h)⟩
 |some (.ex n),h=>exact h
theorem WP.mono{m:M D}{Q':VK}(h:WP K Xw F H m Q)(k:∀v H',Q v H'→Q' v H'):WP K Xw F H m Q':=by
 match m,h with
 |none,h=>exact h
 |some (.ok d),h=>exact fun v H2 F2 e2 q=>k _ _ (h v H2 F2 e2 q)
 |some (.ex n),h=>exact h
theorem WPL.mono{m:M (List D)}{Q Q':List V→Hp→Prop}(h:WPL K Xw F H m Q)(k:∀v H',Q v H'→Q' v H'):WPL K Xw F H m Q':=by
 match m,h with
 |none,h=>exact h
 |some (.ok d),h=>exact fun v H2 F2 e2 q=>k _ _ (h v H2 F2 e2 q)
 |some (.ex n),h=>exact h
theorem WPB.mono{m:M Bool}{Q Q':Bool→Hp→Prop}(h:WPB Xw F H m Q)(k:∀v H',Q v H'→Q' v H'):WPB Xw F H m Q':=by
 match m,h with
 |none,h=>exact h
 |some (.ok d),h=>exact fun H2 F2 e2=>k _ _ (h H2 F2 e2)
 |some (.ex n),h=>exact h
end
inductive C where
 |lst (l:List D) | dct (ks:List (List Key)) (l:List D) | dci (ks:List Key) (l:List D)
def C.d:C→D
 | .lst ds=> .lst ds
 | .dct ks ds=> .dct ks ds
 | .dci ks ds=> .dci ks ds
inductive Sl where
 |fz (d:D) | ow (c:C)
abbrev aY:=List (Option Sl)
def DenC(K:W.Frag)(F:Hp):C→HO→Prop
 | .lst ds,o=>∃vs,o= .lst vs∧DenL K F ds vs∧ds.length≤lim
 | .dct ks ds,o=>∃vs,o= .dT (ks.zip vs)∧DenL K F ds vs∧ks.length=ds.length∧ds.length≤lim
 | .dci ks ds,o=>∃vs,o= .dK (ks.zip vs)∧DenL K F ds vs∧ks.length=ds.length∧ds.length≤lim
theorem DenC.mono{K:W.Frag}{F F':Hp}(e:Same F F'):∀{c:C}{o:HO},DenC K F c o→DenC K F' c o
 | .lst _,_,⟨vs,h1,h2,h3⟩=>⟨vs,h1,DenL.mono e h2,h3⟩
 | .dct _ _,_,⟨vs,h1,h2,h3⟩=>⟨vs,h1,DenL.mono e h2,h3⟩
 | .dci _ _,_,⟨vs,h1,h2,h3⟩=>⟨vs,h1,DenL.mono e h2,h3⟩
theorem DenC.notup{K:W.Frag}{F:Hp}:∀{c:C}{o:HO},DenC K F c o→∀ts,o≠ .tup ts
 | .lst _,_,⟨_,h1,_⟩,ts,z=>by rw[h1] at z;cases z
 | .dct _ _,_,⟨_,h1,_⟩,ts,z=>by rw[h1] at z;cases z
 | .dci _ _,_,⟨_,h1,_⟩,ts,z=>by rw[h1] at z;cases z
def gQ(ob:Obj):HO→HO
 | .dT aw=> .frz ob (.dT aw)
 | .dK aw=> .frz ob (.dK aw)
 |o=>o
theorem DenC.den{K:W.Frag}{F F':Hp}{a:Addr}{ob:Obj}:∀{c:C}{o:HO},DenC K F c o→Same F F'→F' a=some (gQ ob o)→Den K F' c.d (.ref a)
 | .lst _,_,⟨vs,h1,h2,h3⟩,e,q=>by subst h1;exact⟨a,vs,rfl,q,DenL.mono e h2,h3⟩
 | .dct _ _,_,⟨vs,h1,h2,h3⟩,e,q=>by subst h1;exact⟨a,ob,vs,rfl,q,DenL.mono e h2,h3⟩
 | .dci _ _,_,⟨vs,h1,h2,h3⟩,e,q=>by subst h1;exact⟨a,ob,vs,rfl,q,DenL.mono e h2,h3⟩
def DenO(K:W.Frag)(F H:Hp):Sl→V→Prop
 | .fz d,v=>Den K F d v
 | .ow c,v=>∃a o,v= .ref a∧H a=some o∧F a=none∧DenC K F c o
structure StE (K:W.Frag) (F H:Hp) (σ:St) (ρ:aY):Prop where
 fh:Same F H
 den:∀(i:Nat) (sl:Sl),ρ[i]? =some (some sl)→∃v,σ[i]? =some (some v)∧DenO K F H sl v
theorem DenO.ext{K:W.Frag}{F H F' H':Hp}(e:Ext F H F' H'):∀{sl:Sl}{v:V},DenO K F H sl v→DenO K F' H' sl v
 | .fz _,_,h=>Den.mono e.ff h
 | .ow _,_,⟨a,o,h1,h2,h3,h4⟩=>⟨a,o,h1,e.hh _ _ h2,by rw[e.old h2 h4.notup];exact h3,DenC.mono e.ff h4⟩
theorem StE.ext{K:W.Frag}{F H F' H':Hp}{σ:St}{ρ:aY}(s:StE K F H σ ρ)(e:Ext F H F' H'):StE K F' H' σ ρ:=
 ⟨e.fh,fun i sl q=>let ⟨v,h1,h2⟩:=s.den i sl q;⟨v,h1,h2.ext e⟩⟩
abbrev DE:=aY→M D
abbrev DT:=aY→M Bool
abbrev DA:=aY→M (List D)
def tD(K:W.Frag)(Xw:Nat→Hp→Prop)(δ:DE):TE:=fun σ H Q=>∃F ρ,StE K F H σ ρ∧WP K Xw F H (δ ρ) Q
def Mg(K:W.Frag)(Xw:Nat→Hp→Prop)(δ:DT):TT:=fun σ H Q=>∃F ρ,StE K F H σ ρ∧WPB Xw F H (δ ρ) Q
def Nz(K:W.Frag)(Xw:Nat→Hp→Prop)(δ:DA):TA:=fun σ H Q=>∃F ρ,StE K F H σ ρ∧WPL K Xw F H (δ ρ) Q
def PD(X:Cx)(Xw:Nat→Hp→Prop)(e:Expr)(δ:DE):Prop:=PE X e (tD X.K Xw δ)
def rp(X:Cx)(Xw:Nat→Hp→Prop)(e:Expr)(δ:DT):Prop:=PT X e (Mg X.K Xw δ)
def mV(X:Cx)(Xw:Nat→Hp→Prop)(es:List Expr)(δ:DA):Prop:=PA X es (Nz X.K Xw δ)
theorem PE.weak{X:Cx}{e:Expr}{t t':TE}(h:PE X e t)(k:∀σ H Q,t' σ H Q→t σ H Q):PE X e t':=fun pins s σ H Q I w=>h pins s σ H Q I (k σ H Q w)
theorem PT.weak{X:Cx}{e:Expr}{t t':TT}(h:PT X e t)(k:∀σ H Q,t' σ H Q→t σ H Q):PT X e t':=fun pins s σ H Q I w=>h pins s σ H Q I (k σ H Q w)
theorem PA.weak{X:Cx}{e:List Expr}{t t':TA}(h:PA X e t)(k:∀σ H Q,t' σ H Q→t σ H Q):PA X e t':=fun pos pins s σ H Q I w=>h pos pins s σ H Q I (k σ H Q w)
def dV(i:Nat):DE:=fun ρ=>match ρ[i]? with
 |some (some (.fz d))=>M.ret d
 |_=>M.stuck
def dC(d:D):DE:=fun _=>M.ret d
def d1(g:D→M D)(a:DE):DE:=fun ρ=>a ρ>>=g
def d2(g:D→D→M D)(a b:DE):DE:=fun ρ=>a ρ>>=fun x=>b ρ>>=fun y=>g x y
def aN:DA:=fun _=>M.ret []
def aC(a:DE)(r:DA):DA:=fun ρ=>a ρ>>=fun x=>r ρ>>=fun xs=>M.ret (x::xs)
def dA(g:List D→M D)(a:DA):DE:=fun ρ=>a ρ>>=g
def z4:D→M Bool
 | .bl b=>M.ret b
 |_=>M.stuck
def df(a:DE):DT:=fun ρ=>a ρ>>=z4
def kE(a b:DT):DT:=fun ρ=>a ρ>>=fun x=>if x then M.ret true else b ρ
def b6(a:DT):DT:=fun ρ=>a ρ>>=fun x=>M.ret (!x)
def dE(a b:DE):DE:=fun ρ=>a ρ>>=fun x=>z4 x>>=fun c=>if c then b ρ else M.ret (.bl false)
def EO(a:DE):DE:=fun ρ=>a ρ>>=fun x=>z4 x>>=fun c=>M.ret (.bl (!c))
section
variable{X:Cx}{Xw:Nat→Hp→Prop}{a b:Expr}{δa δb:DE}{pos:Pos}
theorem ab{i:Nat}{x:Str}(h:PE X (.Name x pos) (o4 i)):PD X Xw (.Name x pos) (dV i):=PE.weak h fun σ H Q ⟨F,ρ,s,w⟩=>by
 unfold dV at w
 split at w
 ·rename_i d e
  obtain⟨v,h1,h2⟩:=s.den i _ e
  exact⟨v,h1,WP.now w s.fh h2⟩
 ·exact w.elim
theorem fT{e:Expr}{d:D}{v:V}(h:PE X e (tC v))(hd:∀F,Den X.K F d v):PD X Xw e (dC d):=PE.weak h fun σ H Q ⟨F,ρ,s,w⟩=>WP.now w s.fh (hd F)
theorem au{i j}:PD X Xw (.Constant (.int i) j pos) (dC (.int i)):=fT GZ fun _=>rfl
theorem d_{i j}:PD X Xw (.Constant (.bool i) j pos) (dC (.bl i)):=fT Ju fun _=>rfl
theorem GR{j}:PD X Xw (.Constant .none j pos) (dC .non):=fT G0 fun _=>rfl
theorem cR{x j}(h:x.length≤lim:=by decide):PD X Xw (.Constant (.str x) j pos) (dC (.str x)):=fT G4 fun _=>⟨rfl,h⟩
def vD(K:W.Frag)(r:R2)(g:D→D→M D):Prop:=∀(Xw:Nat→Hp→Prop) (F H:Hp) (x y:V) (dx dy:D) (Q:VK),Same F H→Den K F dx x→Den K F dy y→WP K Xw F H (g dx dy) Q→r x y H Q
theorem tw{r:R2}{g:D→D→M D}(hg:vD X.K r g):∀σ H Q,tD X.K Xw (d2 g δa δb) σ H Q→JX r (tD X.K Xw δa) (tD X.K Xw δb) σ H Q:=fun σ H Q ⟨F,ρ,s,w⟩=>by
 refine⟨F,ρ,s,WP.mono (WP.bind w) fun v H1 ⟨F1,d,e1,q1,w1⟩=>?_⟩
 refine⟨F1,ρ,s.ext e1,WP.mono (WP.bind w1) fun u H2 ⟨F2,d',e2,q2,w2⟩=>?_⟩
 exact hg Xw F2 H2 v u d d' Q e2.fh (Den.mono e2.ff q1) q2 w2
theorem qT{op:Operator}{r:R2}{g:D→D→M D}(ho:OpR X (binaryOp op) r)(hg:vD X.K r g)(ha:PD X Xw a δa)(hb:PD X Xw b δb):PD X Xw (.BinOp a op b pos) (d2 g δa δb):=
 PE.weak (Jw ho ha hb) (tw hg)
theorem BJ{op:CmpOp}{r:R2}{g:D→D→M D}(ho:OpR X (compareOp op) r)(hg:vD X.K r g)(ha:PD X Xw a δa)(hb:PD X Xw b δb)(hm:behindInMarks op b=false:=by first | exact Bu _ | rfl):PD X Xw (.Compare a [op] [b] pos) (d2 g δa δb):=
 PE.weak (Ed ho ha hb hm) (tw hg)
theorem iE{op:CmpOp}{r:R2}{g:D→D→M D}(ho:OpR X (compareOp op) r)(hg:vD X.K r g)(ha:PD X Xw a δa)(hb:PD X Xw b δb)(hm:behindInMarks op b=false:=by first | exact Bu _ | rfl):rp X Xw (.Compare a [op] [b] pos) (df (d2 g δa δb)):=
 PT.weak (En ho ha hb hm) fun σ H Q ⟨F,ρ,s,w⟩=>by
  refine tw hg σ H _ ⟨F,ρ,s,WP.mono (WPB.bind w) fun v H1 ⟨F1,d,e1,q1,w1⟩=>?_⟩
  cases d with
  |bl k=>exact⟨k,q1,w1 _ _ (Ext.refl e1.fh)⟩
  |_=>exact w1.elim
theorem yk{r:R2}{g:D→D→M D}(hr:HW X r)(hg:vD X.K r g)(ha:PD X Xw a δa)(hb:PD X Xw b δb)(hs:iw b:=by intro _ _;rfl):PD X Xw (.Subscript a b pos) (d2 g δa δb):=
 PE.weak (Jv hr ha hb hs) (tw hg)
theorem ae:mV X Xw [] aN:=PA.weak sC fun σ H Q ⟨F,ρ,s,w⟩=>w [] H F (Ext.refl s.fh) rfl
theorem aa{es:List Expr}{δs:DA}(ha:PD X Xw a δa)(hr:mV X Xw es δs)(hs:starEach (a::es) X.env=(false,eval a X.env)::starEach es X.env:=by rfl):mV X Xw (a::es) (aC δa δs):=
 PA.weak (sA ha hr hs) fun σ H Q ⟨F,ρ,s,w⟩=>by
  refine⟨F,ρ,s,WP.mono (WPL.bind w) fun v H1 ⟨F1,d,e1,q1,w1⟩=>?_⟩
  refine⟨F1,ρ,s.ext e1,WPL.mono (WPL.bindL w1) fun vs H2 ⟨F2,ds,e2,q2,w2⟩=>?_⟩
  exact w2 _ _ _ (Ext.refl e2.fh) (.cons (Den.mono e2.ff q1) q2)
def bB(ds:List D):M D:=if ds.length≤lim then M.ret (.tup ds) else M.stuck
def fQ(ds:List D):M D:=if ds.length≤lim then M.ret (.lst ds) else M.stuck
theorem wk{ds:List D}{f:List D→D}{Q:VK}{F H:Hp}(w:WP X.K Xw F H (if ds.length≤lim then M.ret (f ds) else M.stuck) Q):ds.length≤lim∧WP X.K Xw F H (M.ret (f ds)) Q:=by
 split at w
 ·rename_i h;exact⟨h,w⟩
 ·exact w.elim
theorem bY{x1}{es:List Expr}{δs:DA}(h:mV X Xw es δs):PD X Xw (.Tuple es x1 pos) (dA bB δs):=PE.weak (G5 h) fun σ H Q ⟨F,ρ,s,w⟩=>by
 refine⟨F,ρ,s,WPL.mono (WP.bindL w) fun vs H1 ⟨F1,ds,e1,q1,w1⟩=>?_⟩
 obtain⟨hl,w1⟩:=wk (X:=X) w1
 have hv:=q1.len
 refine⟨by have:=dH;omega,fun p hp=>WP.fin w1 (Ext.lay e1.fh hp) ⟨p,vs,rfl,az,DenL.mono (Ext.lay e1.fh hp).ff q1,hl⟩⟩
theorem oD{es:List Expr}{δs:DA}(h:mV X Xw es δs):PD X Xw (.List es pos) (dA fQ δs):=PE.weak (BV h) fun σ H Q ⟨F,ρ,s,w⟩=>by
 refine⟨F,ρ,s,WPL.mono (WP.bindL w) fun vs H1 ⟨F1,ds,e1,q1,w1⟩=>?_⟩
 obtain⟨hl,w1⟩:=wk (X:=X) w1
 have hv:=q1.len
 refine⟨by have:=dH;omega,fun p hp=>WP.fin w1 (Ext.lay e1.fh hp) ⟨p,vs,rfl,az,DenL.mono (Ext.lay e1.fh hp).ff q1,hl⟩⟩
end
def ItD(K:W.Frag)(F:Hp)(J:It)(ds:List D):Prop:=∀(F' H':Hp) (i:Nat),Same F F'→Same F' H'→
 (∀d,ds[i]? =some d→J.go i H'∧∀x H'',J.yld i H' x H''→∃F'',Ext F' H' F'' H''∧Den K F'' d x)∧(ds.length≤i→J.stop i H')
theorem ItD.mono{K:W.Frag}{F F1:Hp}{J:It}{ds:List D}(h:ItD K F J ds)(e:Same F F1):ItD K F1 J ds:=fun F' H' i s1 s2=>h F' H' i (e.trans s1) s2
def WPI(K:W.Frag)(Xw:Nat→Hp→Prop)(F H:Hp)(m:M (List D))(R:It→Hp→Prop):Prop:=
 match m with
 |none=>False
 |some (.ok ds)=>∀J H' F',Ext F H F' H'→ItD K F' J ds→R J H'
 |some (.ex n)=>∀F' H',Ext F H F' H'→Xw n H'
def Pm(K:W.Frag)(Xw:Nat→Hp→Prop)(δ:DA):TI:=fun σ H R=>∃F ρ,StE K F H σ ρ∧WPI K Xw F H (δ ρ) R
def yy(X:Cx)(Xw:Nat→Hp→Prop)(tg iter:Expr)(δ:DA):Prop:=PI X tg iter (Pm X.K Xw δ)
theorem PI.weak{X:Cx}{tg e:Expr}{t t':TI}(h:PI X tg e t)(k:∀σ H Q,t' σ H Q→t σ H Q):PI X tg e t':=fun pins s σ H Q I w=>h pins s σ H Q I (k σ H Q w)
theorem WPI.bind{K:W.Frag}{Xw:Nat→Hp→Prop}{F H:Hp}{m:M D}{k:D→M (List D)}{R:It→Hp→Prop}(h:WPI K Xw F H (m>>=k) R):
 WP K Xw F H m fun v H1=>∃F1 d,Ext F H F1 H1∧Den K F1 d v∧WPI K Xw F1 H1 (k d) R:=by
 match m,h with
 |none,h=>exact h
 |some (.ok d),h=>
  refine fun v H2 F2 e2 q=>⟨F2,d,e2,q,?_⟩
  have h:WPI K Xw F H (k d) R:=h
  show WPI K Xw F2 H2 (k d) R
  match k d,h with
  |none,h=>exact h
  |some (.ok ds),h=>exact fun J H3 F3 e3 q3=>h J H3 F3 (e2.trans e3) q3
  |some (.ex n),h=>exact fun F3 H3 e3=>h F3 H3 (e2.trans e3)
 |some (.ex n),h=>exact h
theorem WPI.bindL{K:W.Frag}{Xw:Nat→Hp→Prop}{F H:Hp}{m:M (List D)}{k:List D→M (List D)}{R:It→Hp→Prop}(h:WPI K Xw F H (m>>=k) R):
 WPL K Xw F H m fun v H1=>∃F1 d,Ext F H F1 H1∧DenL K F1 d v∧WPI K Xw F1 H1 (k d) R:=by
 match m,h with
 |none,h=>exact h
 |some (.ok d),h=>
  refine fun v H2 F2 e2 q=>⟨F2,d,e2,q,?_⟩
  have h:WPI K Xw F H (k d) R:=h
  show WPI K Xw F2 H2 (k d) R
  match k d,h with
  |none,h=>exact h
  |some (.ok ds),h=>exact fun J H3 F3 e3 q3=>h J H3 F3 (e2.trans e3) q3
  |some (.ex n),h=>exact fun F3 H3 e3=>h F3 H3 (e2.trans e3)
 |some (.ex n),h=>exact h
def lstM:D→M (List D)
 | .lst ds=>M.ret ds
 |_=>M.stuck
def Mq:D→M (List D)
 | .tup ds=>M.ret ds
 |_=>M.stuck
def i_(a:DE):DA:=fun ρ=>a ρ>>=lstM
def fc(a:DE):DA:=fun ρ=>a ρ>>=Mq
theorem A7{K:W.Frag}{F:Hp}{a:Addr}{vs:List V}{ds:List D}(h:SqL K F a vs)(hd:DenL K F ds vs):ItD K F (Ku K a) ds:=fun F' H' i s1 s2=>by
 have hs:=Same.seq s2 (Same.seq s1 h)
 refine⟨fun d e=>?_,fun hl=>⟨vs,hs,by rw[←hd.len];exact hl⟩⟩
 obtain⟨v,e1,q⟩:=hd.get e
 refine⟨⟨vs,v,hs,e1⟩,fun x H'' y=>?_⟩
 obtain⟨e2,y⟩:=y
 subst e2
 have:=y vs hs
 rw[e1] at this
 cases this
 exact⟨F',Ext.refl s2,Den.mono s1 q⟩
theorem DH{K:W.Frag}{F:Hp}{a:Addr}{vs:List V}{ds:List D}(h:SqT K F a vs)(hd:DenL K F ds vs):ItD K F (Kv K a) ds:=fun F' H' i s1 s2=>by
 have hs:=Same.tup s2 (Same.tup s1 h)
 refine⟨fun d e=>?_,fun hl=>⟨vs,hs,by rw[←hd.len];exact hl⟩⟩
 obtain⟨v,e1,q⟩:=hd.get e
 refine⟨⟨vs,v,hs,e1⟩,fun x H'' y=>?_⟩
 obtain⟨e2,y⟩:=y
 subst e2
 have:=y vs hs
 rw[e1] at this
 cases this
 exact⟨F',Ext.refl s2,Den.mono s1 q⟩
def fY(lo:Int)(n:Nat):List D:=(List.range n).map fun(i:Nat)=>D.int (lo+(i:Int))
theorem qm{K:W.Frag}{F:Hp}(lo:Int)(n:Nat):ItD K F (HV lo n) (fY lo n):=fun F' H' i s1 s2=>by
 refine⟨fun d e=>?_,fun hl=>show n≤i by simpa[fY] using hl⟩
 unfold fY at e
 rw[List.getElem?_map] at e
 have hi:i<n:=by
  by_cases hi:i<n
  ·exact hi
  ·rw[List.getElem?_eq_none (by simpa using hi)] at e;cases e
 rw[List.getElem?_range hi] at e
 cases e
 refine⟨hi,fun x H'' y=>?_⟩
 obtain⟨e2,y⟩:=y
 subst e2 y
 exact⟨F',Ext.refl s2,rfl⟩
section
variable{X:Cx}{Xw:Nat→Hp→Prop}{tg l:Expr}{δ:DE}{pos:Pos}
theorem dr(h:PD X Xw l δ):yy X Xw tg l (i_ δ):=PI.weak (Ef h) fun σ H R ⟨F,ρ,s,w⟩=>by
 refine⟨F,ρ,s,WP.mono (WPI.bind w) fun v H1 ⟨F1,d,e1,q1,w1⟩=>?_⟩
 cases d with
 |lst ds=>
  obtain⟨a,vs,h1,h2,h3,h4⟩:=q1
  exact⟨a,h1,⟨vs,Same.seq e1.fh (SqL.of h2)⟩,w1 _ _ _ (Ext.refl e1.fh) (A7 (SqL.of h2) h3)⟩
 |_=>exact w1.elim
theorem eZ(h:PD X Xw l δ):yy X Xw tg l (fc δ):=PI.weak (G9 h) fun σ H R ⟨F,ρ,s,w⟩=>by
 refine⟨F,ρ,s,WP.mono (WPI.bind w) fun v H1 ⟨F1,d,e1,q1,w1⟩=>?_⟩
 cases d with
 |tup ds=>
  obtain⟨a,vs,h1,h2,h3,h4⟩:=q1
  exact⟨a,h1,⟨vs,Same.tup e1.fh (SqT.of h2)⟩,w1 _ _ _ (Ext.refl e1.fh) (DH (SqT.of h2) h3)⟩
 |_=>exact w1.elim
def ke:List D→M (List D)
 |[.int j]=>if -4096≤j∧j≤4096 then M.ret (fY 0 j.toNat) else M.stuck
 |_=>M.stuck
def q_:List D→M (List D)
 |[.int i, .int j]=>if (-4096≤i∧i≤4096)∧(-4096≤j∧j≤4096) then M.ret (fY i (j - i).toNat) else M.stuck
 |_=>M.stuck
theorem DenL.one{K:W.Frag}{F:Hp}{d:D}{vs:List V}(h:DenL K F [d] vs):∃v,vs=[v]∧Den K F d v:=by
 obtain⟨v,r,h1,h2,h3⟩:=h
 cases (show r=[] from h3)
 exact⟨v,h1,h2⟩
theorem DenL.two{K:W.Frag}{F:Hp}{d d':D}{vs:List V}(h:DenL K F [d,d'] vs):∃v v',vs=[v,v']∧Den K F d v∧Den K F d' v':=by
 obtain⟨v,r,h1,h2,h3⟩:=h
 obtain⟨v',h4,h5⟩:=h3.one
 subst h4
 exact⟨v,v',h1,h2,h5⟩
theorem gn{a:Expr}{δs:DA}{p:Pos}(hg:Gl X "range")(hm:X.mg "range"=none)(ha:mV X Xw [a] δs)(hs:starEach [a] X.env=[(false,eval a X.env)]:=by rfl):yy X Xw tg (.Call (.Name "range" p) [a] [] pos) (fun ρ=>δs ρ>>=ke):=
 PI.weak (zI hg hm ha hs) fun σ H R ⟨F,ρ,s,w⟩=>by
  refine⟨F,ρ,s,WPL.mono (WPI.bindL w) fun vs H1 ⟨F1,ds,e1,q1,w1⟩=>?_⟩
  unfold ke at w1
  split at w1
  ·rename_i j
   obtain⟨v,h1,h2⟩:=q1.one
   cases (show v=_ from h2)
   split at w1
   ·exact⟨j,h1,by omega,by omega,w1 _ _ _ (Ext.refl e1.fh) (qm 0 _)⟩
   ·exact w1.elim
  ·exact w1.elim
theorem oF{a b:Expr}{δs:DA}{p:Pos}(hg:Gl X "range")(hm:X.mg "range"=none)(ha:mV X Xw [a,b] δs)(hs:starEach [a,b] X.env=[(false,eval a X.env),(false,eval b X.env)]:=by rfl)
 (HM:starEach [b] X.env=[(false,eval b X.env)]:=by rfl):yy X Xw tg (.Call (.Name "range" p) [a,b] [] pos) (fun ρ=>δs ρ>>=q_):=
 PI.weak (zJ hg hm ha hs HM) fun σ H R ⟨F,ρ,s,w⟩=>by
  refine⟨F,ρ,s,WPL.mono (WPI.bindL w) fun vs H1 ⟨F1,ds,e1,q1,w1⟩=>?_⟩
  unfold q_ at w1
  split at w1
  ·rename_i i j
   obtain⟨v,v',h1,h2,h3⟩:=q1.two
   cases (show v=_ from h2)
   cases (show v'=_ from h3)
   split at w1
   ·exact⟨i,j,h1,⟨by omega,by omega,by omega,by omega⟩,w1 _ _ _ (Ext.refl e1.fh) (qm i _)⟩
   ·exact w1.elim
  ·exact w1.elim
end
def cB(tg N:List Str):List Str:=N.map fun y=>if tg.contains y then y++(" ":Str) else y
def iS(X:Cx)(scope:Scope)(tn:List Str)(pins:List (Addr×Obj))(cl:List (Str×Addr))(C:Addr)(fp:List Addr)(s₂:Shared)(H:Hp):Cx:=
 {X with N:=tn++cB tn X.N,s₀:=s₂,H₀:=H,env:=compEnvC scope cl C X.env,outer:=X.stack,ex:=fp,fn:=fun _=>false,pn:=X.pn++pins,xe:=fun _ _=>False}
structure CompSc (X:Cx) (scope:Scope) (tn:List Str):Prop where
 kind:scope.kind= .function
 nocell:∀y∈scope.names,y.2≠ .cell
 names:∀y∈scope.names,y.2= .local→scope.names.lookup y.1=some .local
 frees:∀y∈scope.names,y.2= .free→X.env.kindOf y.1=some .cell∨X.env.kindOf y.1=some .free
 vis:∀p∈(cB tn X.N).zip X.N,scope.names.lookup p.1=none∨(p.1=p.2∧scope.names.lookup p.1=some .free)
theorem i8{env:Env}:∀(names:List (Str×NameKind)) (acc:List (Str×Addr)),(∀y∈names,y.2= .free→∃c,env.cells.lookup y.1=some c)→
 (∀x c,acc.lookup x=some c→env.cells.lookup x=some c)→
 ∃cl,(forIn names acc (fun (x:Str×NameKind) (r:List (Str×Addr))=>do
   let __x:=x
   if (__x.2==NameKind.free)=true then do let c←cellOf env __x.1;pure (ForInStep.yield ((__x.1,c)::r)) else pure (ForInStep.yield r)):Sem (List (Str×Addr)))=pure cl∧
  (∀x c,cl.lookup x=some c→env.cells.lookup x=some c)∧(∀x c,acc.lookup x=some c→∃c',cl.lookup x=some c')∧(∀x,names.lookup x=some .free→∃c,cl.lookup x=some c)
 |[],acc,_,h2=>⟨acc,rfl,h2,fun x c e=>⟨c,e⟩,fun x e=>by simp at e⟩
 |(n,k)::r,acc,h1,h2=>by
  by_cases hk:k= .free
  ·subst hk
   obtain⟨c,hc⟩:=h1 (n, .free) List.mem_cons_self rfl
   obtain⟨cl,e,a1,a2,a3⟩:=i8 r ((n,c)::acc) (fun y hy=>h1 y (List.mem_cons_of_mem _ hy)) (fun x c' q=>by
    rw[List.lookup_cons] at q
    split at q
    ·rename_i hx
     cases q
     rw[show x=n from by simpa using hx];exact hc
    ·exact h2 x c' q)
   refine⟨cl,?_,a1,fun x c' q=>?_,fun x q=>?_⟩
   ·rw[List.forIn_cons]
    have:cellOf env n=pure c:=by unfold cellOf;rw[hc]
    simp only[beq_self_eq_true,if_true,this,pure_bind]
    exact e
   ·by_cases hx:x=n
    ·subst hx
     exact a2 x c (by simp[List.lookup_cons])
    ·exact a2 x c' (by rw[List.lookup_cons,show (x==n)=false from by simpa using hx];exact q)
   ·rw[List.lookup_cons] at q
    split at q
    ·rename_i hx
     exact a2 x c (by rw[List.lookup_cons,hx])
    ·exact a3 x q
  ·obtain⟨cl,e,a1,a2,a3⟩:=i8 r acc (fun y hy=>h1 y (List.mem_cons_of_mem _ hy)) h2
   refine⟨cl,?_,a1,a2,fun x q=>?_⟩
   ·rw[List.forIn_cons]
    have:((k==NameKind.free)=true)=False:=by simpa using hk
    simp only[this,if_false,pure_bind]
    exact e
   ·rw[List.lookup_cons] at q
    split at q
    ·cases q;exact absurd rfl hk
    ·exact a3 x q
theorem ng{scope:Scope}{env:Env}(h:∀y∈scope.names,y.2= .free→∃c,env.cells.lookup y.1=some c):
 ∃cl,closureFor scope env=pure cl∧(∀x c,cl.lookup x=some c→env.cells.lookup x=some c)∧(∀x,scope.names.lookup x=some .free→∃c,cl.lookup x=some c):=by
 obtain⟨cl,e,a1,_,a3⟩:=i8 (env:=env) scope.names [] h (fun x c q=>by simp at q)
 refine⟨cl,?_,a1,a3⟩
 unfold closureFor
 show (forIn scope.names [] _>>=fun r=>pure r)=_
 rw[bind_pure]
 exact e
def noex{α:Type}:M α→M α
 |some (.ok a)=>some (.ok a)
 |_=>none
def cj(f:D→M (Option D)):List D→M (List D)
 |[]=>M.ret []
 |d::ds=>f d>>=fun o=>cj f ds>>=fun r=>M.ret (match o with | some y=>y::r | none=>r)
def NA(n:Nat):D→M (List D):=fun d=>match n,d with
 |0,d=>M.ret [d]
 |n, .tup ds=>if ds.length=n then M.ret ds else M.stuck
 |_,_=>M.stuck
def d8(n:Nat)(δt:DT)(δe:DE)(ρ:aY):D→M (Option D):=fun d=>
 NA n d>>=fun ts=>δt (ts.map (fun t=>some (Sl.fz t))++ρ)>>=fun b=>if b then δe (ts.map (fun t=>some (Sl.fz t))++ρ)>>=fun y=>M.ret (some y) else M.ret none
def a9(n:Nat)(δi:DA)(δt:DT)(δe:DE):DE:=fun ρ=>δi ρ>>=fun ds=>noex (cj (d8 n δt δe ρ) ds)>>=fQ
def bw:DT:=fun _=>M.ret true
theorem cy(f:D→M (Option D))(d:D)(ds:List D):cj f (d::ds)=(f d>>=fun o=>cj f ds>>=fun r=>M.ret (match o with | some y=>y::r | none=>r)):=rfl
theorem vS{f:D→M (Option D)}{ds:List D}{i:Nat}{d:D}{ys R:List D}(hd:ds[i]? =some d)
 (h:cj f ds=(cj f (ds.drop i)>>=fun r=>M.ret (ys++r)))(hR:cj f ds=M.ret R):
 ∃o,f d=M.ret o∧cj f ds=(cj f (ds.drop (i+1))>>=fun r=>M.ret ((match o with | some y=>ys++[y] | none=>ys)++r)):=by
 have e:ds.drop i=d::ds.drop (i+1):=by
  obtain⟨hi,e⟩:=List.getElem?_eq_some_iff.mp hd
  rw[List.drop_eq_getElem_cons hi,e]
 rw[e,cy] at h
 have h':=h.symm.trans hR
 obtain⟨r,h1,h2⟩:=f7 h'
 obtain⟨o,h3,h4⟩:=f7 h1
 refine⟨o,h3,?_⟩
 obtain⟨r',h5,h6⟩:=f7 h4
 rw[h5,hR]
 rw[←h2,←er h6]
 show M.ret _=M.ret _
 cases o with
 |none=>rfl
 |some y=>simp
theorem yN{prog:Program}{w:World}{A:Around}{R:Result→Shared→Prop}{s:Shared}{elt target iter:Expr}{ifs:List Expr}{scope:Scope}{pos:Pos}{it acc:Value}{env:Env}(I:Nat→Shared→Prop)
 (turn:∀n s,I n s→wpAny (model prog w) A (pyNext it) (fun r s₁=>match r with
  |none=>R (.ok .next) s₁
  |some v=>wpAny (model prog w) A (letOwnedTupleGo target it v) (fun _ Ny=>wpAny (model prog w) A (assign target env v) (fun _ s₂=>
    wpAny (model prog w) A (forIn ifs true fun c r=>if r=true then do let ok←isTrue c env (eval c env);pure (ForInStep.yield ok) else pure (ForInStep.yield r)) (fun ok s₃=>
     if ok=true then wpAny (model prog w) A (eval elt env) (fun x s₄=>
      wpAny (model prog w) A (call (.builtin "list.append") [acc,x]) (fun _ s₅=>∃m,m<n∧I m s₅) (notedBy (model prog w) A env fun e s'=>R (.error e) s') s₄) (notedBy (model prog w) A env fun e s'=>R (.error e) s') s₃
     else∃m,m<n∧I m s₃) (notedBy (model prog w) A env fun e s'=>R (.error e) s') s₂) (notedBy (model prog w) A env fun e s'=>R (.error e) s') Ny) (notedBy (model prog w) A env fun e s'=>R (.error e) s') s₁) (notedBy (model prog w) A env fun e s'=>R (.error e) s') s)
 (n:Nat) (h:I n s):
 codeAny (model prog w) A (.compLoop (.ListComp elt [⟨target,iter,ifs,0⟩] scope pos) 0 it acc env) R s:=by
 refine codeAny_loop rfl I (fun n s hI=>?_) n h
 show wpAny _ A ((compTurn (.ListComp elt [⟨target,iter,ifs,0⟩] scope pos) 0 it acc env).onRaise (fun x=>do noteFrame x env;theTreesLotGoes x)) _ _ s
 refine wpAny_noted ?_
 rw[compTurn_list]
 refine wpAny_bind (wpAny_standAt (wpAny_bind (wpAny_mono (turn n s hI) (fun r s₁ h₁=>?_) fun _ _ h'=>h')))
 cases r with
 |none=>exact wpAny_pure h₁
 |some v=>
  refine wpAny_bind (wpAny_mono h₁ (fun _ Ny h₁=>?_) fun _ _ h'=>h')
  refine wpAny_bind (wpAny_mono h₁ (fun _ s₂ h₂=>wpAny_bind (wpAny_mono h₂ (fun ok s₃ h₃=>?_) fun _ _ h'=>h')) fun _ _ h'=>h')
  cases ok with
  |false=>exact wpAny_pure ⟨rfl,h₃⟩
  |true=>
   exact wpAny_bind (wpAny_bind (wpAny_mono h₃ (fun x s₄ h₄=>wpAny_bind (wpAny_mono h₄ (fun _ s₅ h₅=>wpAny_pure (wpAny_pure ⟨rfl,h₅⟩)) fun _ _ h'=>h')) fun _ _ h'=>h'))
def yz(X:Cx)(tg:Expr)(n:Nat)(σ:St):Prop:=∀(pins:List (Addr×Obj)) (s:Shared) (σ':St) (F H:Hp) (d:D) (ts:List D) (v:V) (u:Value),Inv X pins σ' H s→Same F H→σ'.drop (max n 1)=σ→RelV v u→Den X.K F d v→NA n d=M.ret ts→
 wpAny (model X.prog X.w) X.A (assign tg X.env u) (fun _ s'=>∃vs,Inv X pins (vs.map some++σ) H s'∧DenL X.K F ts vs) X.xe s
def kF(X:Cx)(ifs:List Expr)(δt:DT):Prop:=∀(pins:List (Addr×Obj)) (s:Shared) (σ:St) (H:Hp) (Q:Bool→Hp→Prop),Inv X pins σ H s→Mg X.K (fun _ _=>False) δt σ H Q→
 wpAny (model X.prog X.w) X.A (forIn ifs true fun c r=>if r=true then do let ok←isTrue c X.env (eval c X.env);pure (ForInStep.yield ok) else pure (ForInStep.yield r)) (TP X pins σ Q) X.xe s
theorem cF{X:Cx}:kF X [] bw:=fun pins s σ H Q I ⟨F,ρ,S,w⟩=>wpAny_tests_nil ⟨H,I,w H F (Ext.refl S.fh)⟩
theorem o6{X:Cx}{c:Expr}{δ:DT}(h:rp X (fun _ _=>False) c δ):kF X [c] δ:=fun pins s σ H Q I w=>wpAny_tests_one (h pins s σ H Q I w)
theorem StE.cons{K:W.Frag}{F H:Hp}{σ:St}{ρ:aY}{ts:List D}{vs:List V}(s:StE K F H σ ρ)(h:DenL K F ts vs):StE K F H (vs.map some++σ) (ts.map (fun t=>some (Sl.fz t))++ρ):=by
 refine⟨s.fh,fun i sl e=>?_⟩
 have hl:=h.len
 by_cases hi:i<ts.length
 ·rw[List.getElem?_append_left (by simpa using hi),List.getElem?_map] at e
  cases q:ts[i]? with
  |none=>rw[q] at e;cases e
  |some t=>
   rw[q] at e
   cases e
   obtain⟨v,e1,e2⟩:=h.get q
   exact⟨v,by rw[List.getElem?_append_left (by simp;omega),List.getElem?_map,e1];rfl,e2⟩
 ·rw[List.getElem?_append_right (by simpa using hi)] at e
  obtain⟨v,e1,e2⟩:=s.den _ _ e
  refine⟨v,?_,e2⟩
  rw[List.getElem?_append_right (by simp;omega)]
  simpa[hl] using e1
theorem WPB.take{Xw:Nat→Hp→Prop}{F H:Hp}{b:Bool}:WPB Xw F H (M.ret b) fun b' H'=>b'=b∧∃F',Ext F H F' H':=fun H' F' e=>⟨rfl,F',e⟩
theorem WP.take{K:W.Frag}{Xw:Nat→Hp→Prop}{F H:Hp}{d:D}:WP K Xw F H (M.ret d) fun v H'=>∃F',Ext F H F' H'∧Den K F' d v:=fun v H' F' e q=>⟨F',e,q⟩
def k9(env:Env)(p:Str×NameKind):Str×NameKind:=if (p.2== .free&&env.scope.kind== .function&&env.kindOf p.1==some .cell) then(p.1, .cell) else(p.1,p.2)
theorem fi(scope:Scope)(env:Env):(relabel scope env).names=scope.names.map (k9 env):=rfl
theorem Ca(env:Env)(p:Str×NameKind):(k9 env p).1=p.1:=by unfold k9;split<;>rfl
theorem gh(env:Env)(x:Str):∀ns:List (Str×NameKind),(ns.map (k9 env)).lookup x=(ns.lookup x).map fun k=>(k9 env (x,k)).2
 |[]=>rfl
 |(m,k)::r=>by
  rw[List.map_cons,List.lookup_cons,List.lookup_cons]
  have e:k9 env (m,k)=(m,(k9 env (m,k)).2):=Prod.ext (Ca env (m,k)) rfl
  rw[e]
  dsimp only
  by_cases hx:(x==m)=true
  ·have hm:x=m:=by simpa using hx
   subst hm
   rw[hx]
   rfl
  ·have hx:(x==m)=false:=by simpa using hx
   rw[hx]
   exact gh env x r
theorem sO{scope:Scope}{env:Env}{x:Str}(h:scope.names.lookup x=none):(relabel scope env).names.lookup x=none:=by
 rw[fi,gh,h];rfl
theorem sN{scope:Scope}{env:Env}{x:Str}(hc:∀y∈scope.names,y.2≠ .cell)(h:(relabel scope env).names.lookup x=some .cell∨(relabel scope env).names.lookup x=some .free):scope.names.lookup x=some .free:=by
 rw[fi,gh] at h
 cases q:scope.names.lookup x with
 |none=>rw[q] at h;rcases h with h | h<;>cases h
 |some k=>
  rw[q] at h
  have hk:k≠ .cell:=hc _ (PySem.mem_of_lookup q)
  have h:(k9 env (x,k)).2= .cell∨(k9 env (x,k)).2= .free:=by simpa using h
  by_cases hf:k= .free
  ·rw[hf]
  ·have:(k9 env (x,k)).2=k:=by
    unfold k9
    rw[if_neg]
    simp[hf]
   rw[this] at h
   rcases h with h | h
   ·exact absurd h hk
   ·exact absurd h hf
theorem k_{scope:Scope}{env:Env}{x:Str}(h:scope.names.lookup x=some .free):¬(relabel scope env).names.lookup x=some .local:=by
 rw[fi,gh,h]
 intro z
 have z:(k9 env (x, .free)).2= .local:=by simpa using z
 unfold k9 at z
 split at z<;>cases z
structure BlockEnd (X:Cx) (pins:List (Addr×Obj)) (C:Addr) (H':Hp) (s1:Shared):Prop where
 ns:∃m,s1.heap.Ns C m
 free:H' C=none
 nl:C≠X.env.locals
 nw:X.s₀.heap.objs.size≤C
 nc:∀x c,X.env.cells.lookup x=some c→c≠C
 np:∀p∈X.pn++pins,p.1≠C
theorem tV{X:Cx}{Xw:Nat→Hp→Prop}{elt iter tg:Expr}{ifs:List Expr}{scope:Scope}{pos:Pos}{tn:List Str}{n:Nat}{δi:DA}{δt:DT}{δe:DE}{cl:List (Str×Addr)}{pins:List (Addr×Obj)}{s:Shared}{σ:St}{H F:Hp}{ρ:aY}{Q:VK}{RR:Value→Addr→Result→Shared→Prop}
 (sc:CompSc X scope tn)(hn:tn.length=max n 1)(hc:X.calm=true)(hi:yy X Xw tg iter δi)
 (hg:∀pins cl C fp s₂ H σ,yz (iS X scope tn pins cl C fp s₂ H) tg n σ)
 (ht:∀pins cl C fp s₂ H,kF (iS X scope tn pins cl C fp s₂ H) ifs δt)
 (he:∀pins cl C fp s₂ H,PD (iS X scope tn pins cl C fp s₂ H) (fun _ _=>False) elt δe)
 (I:Inv X pins σ H s)(S:StE X.K F H σ ρ)(w:WP X.K Xw F H (a9 n δi δt δe ρ) Q)
 (An:∀x c,cl.lookup x=some c→X.env.cells.lookup x=some c)(HF:∀x,scope.names.lookup x=some .free→∃c,cl.lookup x=some c)
 (N3:∀(s1:Shared) (C D:Addr) (H':Hp),Inv X pins σ H' s1→Q (.ref D) H'→BlockEnd X pins C H' s1→RR (.ref D) C (.ok .next) s1):
 wpAny (model X.prog X.w) X.A (eval iter X.env) (fun x s₁=>wpAny (model X.prog X.w) X.A (pyIter x) (fun it s₂=>wpAny (model X.prog X.w) X.A (newList []) (fun acc s₃=>
  wpAny (model X.prog X.w) X.A (newFunctionEnv scope X.env.globals cl [] X.env.qual none .none (some X.env)) (fun H_ s₄=>
   codeAny (model X.prog X.w) X.A (.compStart (.ListComp elt [⟨tg,iter,ifs,0⟩] scope pos) 0 it acc {H_ with scope:=relabel scope X.env}) (RR acc H_.locals) s₄) X.xe s₃) X.xe s₂) X.xe s₁) X.xe s:=by
 refine bG (hi pins s σ H (fun J H2=>∃F2 ds,Ext F H F2 H2∧ItD X.K F2 J ds∧WP X.K Xw F2 H2 (noex (cj (d8 n δt δe ρ) ds)>>=fQ) Q) I ⟨F,ρ,S,?_⟩) fun xv s₁ h₁=>bG h₁ fun it s₂ h₂=>?_
 ·unfold a9 at w
  rcases(δi ρ).cs with hq | ⟨m,hq⟩ | ⟨ds,hq⟩
  ·rw[hq] at w;exact w.elim
  ·rw[hq] at w⊢;exact w
  ·rw[hq] at w⊢;exact fun J H' F' e q=>⟨F',ds,e,q,WP.ext e w⟩
 obtain⟨ia,fp,NB,J,H2,rfl,I2,T,JS,f2,F2,ds,e2,Nj,w2⟩:=h₂
 obtain⟨R,hR,MN,w2⟩:∃R,cj (d8 n δt δe ρ) ds=M.ret R∧R.length≤lim∧WP X.K Xw F2 H2 (M.ret (.lst R)) Q:=by
  rcases(cj (d8 n δt δe ρ) ds).cs with hq | ⟨m,hq⟩ | ⟨R,hq⟩
  ·rw[hq] at w2;exact w2.elim
  ·rw[hq] at w2;exact w2.elim
  ·rw[hq] at w2
   obtain⟨h1,h2⟩:=wk (X:=X) (f:=D.lst) (show WP X.K Xw F2 H2 (fQ R) Q from w2)
   exact⟨R,hq,h1,h2⟩
 refine wpAny_newObj_type (wpAny_newFunctionEnv sc.nocell (by intro y hy;simp at hy) (fun h₁ Ga Dx=>?_) sc.kind)
 dsimp only at Ga Dx⊢
 generalize KO:s₂.heap.push {cls:= .type "list",dict:=none,data:= .seq ([]:List Value).toArray}=HL at Ga Dx⊢
 have hC:HL.objs.size=s₂.heap.objs.size+1:=by rw[←KO,Heap.size_push]
 have yU:s₂.heap.objs.size<HL.objs.size:=by rw[hC];exact Nat.lt_succ_self _
 have old:∀b o,s₂.heap.get? b=some o→h₁.get? b=some o:=fun b o e=>Dx.extBut b o (Nat.ne_of_lt (Nat.lt_trans (Heap.lt_size e) yU)) (Heap.get?_push_of_some _ (KO▸Heap.get?_push_of_some _ e))
 have pD:h₁.get? s₂.heap.objs.size=some {cls:= .type "list",data:= .seq ([]:List Value).toArray}:=Dx.extBut _ _ (Nat.ne_of_lt yU) (Heap.get?_push_of_some _ (KO▸Heap.get?_push_size _ rfl))
 have nD:H2 s₂.heap.objs.size=none:=I2.hok.fresh (Nat.le_refl _)
 have nC:H2 HL.objs.size=none:=I2.hok.fresh (Nat.le_of_lt yU)
 have gC:s₂.heap.get? HL.objs.size=none:=Heap.get?_none_of_le (Nat.le_of_lt yU)
 have fl:∀b∈fp,b<s₂.heap.objs.size:=fun b hb=>by
  obtain⟨o,e,_⟩:=T.obj 0 _ JS b hb
  exact Heap.lt_size e
 generalize uo:iS X scope tn pins cl HL.objs.size fp s₂ H2=X'
 have Nu:X'.Ok:=by
  subst uo
  refine⟨I2.ok.mod,sc.kind,I2.ok.glob,I2.ok.blt,Nat.le_of_lt yU,fun x y c h1 h2=>I2.ok.inj x y c (An _ _ h1) (An _ _ h2),fun x hx=>?_,fun _ _ h=>(by cases h),I2.ok.hd,I2.ok.frames, .inl rfl,
   fun b hb=>⟨Nat.ne_of_lt (Nat.lt_trans (fl b hb) yU),fun x c h=>(f2 b hb).2.2.2.2.1 x c (An _ _ h)⟩,I2.bs,Nat.le_trans I2.ok.bsz I2.sz,fun b o e hb=>?_,fun b hb z=>?_,I2.stack,I2.stkFree⟩
  ·have hx:(relabel scope X.env).names.lookup x=some .cell∨(relabel scope X.env).names.lookup x=some .free:=hx
   exact HF x (sN sc.nocell hx)
  ·rcases(f2 b hb).2.2.2.1 with z | z
   ·exact I2.ok.noex b o e z
   ·exact absurd (Nat.lt_of_lt_of_le (Heap.lt_size (I2.ok.bs b o e).1) z) (Nat.lt_irrefl _)
  ·rcases List.mem_cons.mp (I2.stkSub b z) with q | q
   ·exact(f2 b hb).2.1 q
   ·exact(f2 b hb).2.2.1 q
 have LW:∀b o,H2 b=some o→b≠s₂.heap.objs.size:=fun b o e=>bN e nD
 have FG:∀{H':Hp},(∀b∈fp,H' b=none)→∀b∈fp,tN X' [] H' b:=fun OK b hb=>by
  subst uo
  refine⟨OK b hb,Nat.ne_of_lt (Nat.lt_trans (fl b hb) yU),fun z=>Nu.exfs b hb z, .inl hb,fun x c h=>(f2 b hb).2.2.2.2.1 x c (An _ _ h),fun p hp=>?_⟩
  rw[List.append_nil] at hp
  exact(f2 b hb).2.2.2.2.2 p hp
 have I0:Inv X' [] (List.replicate (max n 1) none++σ) (upd H2 s₂.heap.objs.size (.lst [])) {s₂ with heap:=h₁,toks:=s₂.toks+([]:List (Str×Value)).length}:=by
  subst uo
  have Ls:HOk X.prog X.w (upd H2 s₂.heap.objs.size (.lst [])) h₁:=I2.hok.laid old (Nat.le_refl _) ⟨Nat.zero_le _,[],_, .nil,pD⟩
  refine⟨Nu,rfl,I2.bare,Un.laid old (Nat.le_refl _) nD,⟨_,Ga,fun i x v h1 h2 h3=>?_⟩,fun x c h=>?_,?_,fun x c h=>?_,fun p hp=>?_,Ls,?_⟩
  ·by_cases hi:i<max n 1
   ·rw[List.getElem?_append_left (by simpa using hi),List.getElem?_replicate,if_pos hi] at h2
    cases h2
   ·have tL:tn.length≤i:=by omega
    have h1:(tn++cB tn X.N)[i]? =some x:=h1
    rw[List.getElem?_append_right tL] at h1
    rw[List.getElem?_append_right (by simpa using hi),List.length_replicate,←hn] at h2
    have hN:∃y,X.N[i - tn.length]? =some y∧(x,y)∈(cB tn X.N).zip X.N:=by
     have dP:=(List.getElem?_eq_some_iff.mp h1).1
     have IS:i - tn.length<X.N.length:=by simpa[cB] using dP
     refine⟨X.N[i - tn.length],List.getElem?_eq_getElem IS,?_⟩
     refine List.mem_iff_getElem?.mpr ⟨i - tn.length,?_⟩
     rw[List.getElem?_zip_eq_some]
     exact⟨h1,List.getElem?_eq_getElem IS⟩
    obtain⟨y,hy,hm⟩:=hN
    have hV:(relabel scope X.env).names.lookup x=some .local∨(relabel scope X.env).names.lookup x=some .cell∨(relabel scope X.env).names.lookup x=some .free:=h3
    rcases sc.vis _ hm with nB | ⟨LJ,E3⟩
    ·have nB:scope.names.lookup x=none:=nB
     have:(relabel scope X.env).names.lookup x=none:=sO nB
     rw[this] at hV
     rcases hV with z | z | z<;>cases z
    ·have LJ:x=y:=LJ
     subst LJ
     have E3:scope.names.lookup x=some .free:=E3
     have hk:=sc.frees (x, .free) (PySem.mem_of_lookup E3) rfl
     obtain⟨m,F7,xQ⟩:=I2.loc
     obtain⟨u,ru,lk⟩:=xQ _ x v hy h2 (by rcases hk with z | z;exact .inr (.inl z);exact .inr (.inr z))
     refine⟨u,ru, .inr ⟨?_,?_⟩⟩
     ·rcases hV with z | z | z
      ·exact absurd z (k_ E3)
      ·exact .inl z
      ·exact .inr z
     ·rcases lk with⟨z,_⟩ | ⟨_,c,N_,FT⟩
      ·rcases hk with q | q
       ·rw[show X.env.kindOf x=some .local from z] at q;cases q
       ·rw[show X.env.kindOf x=some .local from z] at q;cases q
      ·obtain⟨c',EY⟩:=HF x E3
       have:=An _ _ EY
       rw[N_] at this
       cases this
       obtain⟨o,ho,hd⟩:=FT
       exact⟨c,EY,o,old _ _ ho,hd⟩
  ·obtain⟨v,o,ho,hd⟩:=I2.cell x c (An _ _ h)
   exact⟨v,o,old _ _ ho,hd⟩
  ·show upd H2 s₂.heap.objs.size (.lst []) HL.objs.size=none
   rw[av (Nat.ne_of_gt yU)]
   exact nC
  ·have E2:=An _ _ h
   obtain⟨v,q⟩:=I2.cell x c E2
   rw[av (Nat.ne_of_lt q.lt)]
   exact I2.freeC x c E2
  ·rw[List.append_nil] at hp
   obtain⟨e,nn,ne,nf,d⟩:=I2.pin p hp
   have dP:=Heap.lt_size e
   refine⟨old _ _ e,by rw[av (Nat.ne_of_lt dP)];exact nn,Nat.ne_of_lt (Nat.lt_trans dP yU),fun z=>?_,d⟩
   rcases List.mem_cons.mp (I2.stkSub p.1 z) with q | q
   ·exact ne q
   ·exact nf q
  ·show (List.replicate (max n 1) none++σ).length=(tn++cB tn X.N).length
   rw[List.length_append,List.length_append,List.length_replicate,hn,show (cB tn X.N).length=X.N.length from by simp[cB],I2.len]
 have loop:∀s₃:Shared,s₃={s₂ with heap:=h₁,toks:=s₂.toks+([]:List (Str×Value)).length}→
  codeAny (model X.prog X.w) X.A (.compLoop (.ListComp elt [⟨tg,iter,ifs,0⟩] scope pos) 0 (.ref ia) (.ref s₂.heap.objs.size) (compEnvC scope cl HL.objs.size X.env))
   (RR (.ref s₂.heap.objs.size) HL.objs.size) s₃:=by
  intro s₃ OY
  have AB:X'.env=compEnvC scope cl HL.objs.size X.env:=by subst uo;rfl
  have hA:X'.A=X.A:=by subst uo;rfl
  have hP:X'.prog=X.prog:=by subst uo;rfl
  have hw:X'.w=X.w:=by subst uo;rfl
  have hK:X'.K=X.K:=by subst uo;rfl
  have O7:X'.xe=fun _ _=>False:=by subst uo;rfl
  have EZ:X'.calm=true:=by subst uo;exact hc
  have Of:X'.fs=mN X.stack:=by subst uo;rfl
  have hex:X'.ex=fp:=by subst uo;rfl
  have N0:X'.H₀=H2:=by subst uo;rfl
  have Nc:X'.s₀=s₂:=by subst uo;rfl
  have pass:∀{α:Type}{t:Sem α}{P:α→Shared→Prop}{E':Value→Shared→Prop}{s:Shared},wpAny (model X'.prog X'.w) X'.A t P X'.xe s→wpAny (model X.prog X.w) X.A t P E' s:=fun {α t P E' s} h=>by
   rw[hP,hw,hA,O7] at h
   exact wpAny_mono h (fun _ _ q=>q) fun _ _ q=>q.elim
  refine yN (fun m s'=>∃(i:Nat) (F' H':Hp) (vs:List V) (ys:List D) (σt:St),m=ds.length - i∧i≤ds.length∧σt.length=max n 1∧Inv X' [] (σt++σ) H' s'∧NB i s'.heap∧(∀b∈fp,H' b=none)∧Ext F2 H2 F' H'∧
   H' s₂.heap.objs.size=some (.lst vs)∧F' s₂.heap.objs.size=none∧DenL X.K F' ys vs∧cj (d8 n δt δe ρ) ds=(cj (d8 n δt δe ρ) (ds.drop i)>>=fun r=>M.ret (ys++r))) ?_ ds.length ?_
  ·rintro m s' ⟨i,F',H',vs,ys,σt,rfl,Lc,O_,I',oZ,MF,vX,hD,fD,Ki,heq⟩
   by_cases dP:i<ds.length
   ·
    obtain⟨d,hd⟩:∃d,ds[i]? =some d:=⟨_,List.getElem?_eq_getElem dP⟩
    obtain⟨K_,Gg⟩:=(Nj F' H' i vX.ff vX.fh).1 d hd
    obtain⟨o,ho,IJ⟩:=vS hd heq hR
    have LK:ys.length≤lim:=by
     rw[heq] at hR
     obtain⟨r,_,hr⟩:=f7 hR
     rw[←er hr,List.length_append] at MN
     omega
    obtain⟨ts,O2,ho⟩:=f7 ho
    refine pass ?_
    rw[hP,hw]
    refine bG (T.item X' hP hw hK EZ i [] s' (σt++σ) H' X'.xe I' (FG MF) oZ K_) ?_
    rintro r s1 ⟨u,rfl,h1⟩
    refine pass ?_
    rw[hP,hw]
    refine bG h1 ?_
    rintro _ s2 ⟨x,H3,I3,rx,y3,HP,J7⟩
    obtain⟨F3,CW,q3⟩:=Gg x H3 y3
    have MJ:H3 s₂.heap.objs.size=some (.lst vs):=CW.hh _ _ hD
    have NR:F3 s₂.heap.objs.size=none:=by rw[CW.old hD (fun _ z=>nomatch z)];exact fD
    have I3':=I3.pinned (FG J7) (T.obj _ _ HP)
    have x3:∀{σ7:St}{H7:Hp}{s7:Shared},Inv X' ([]++oG fp s2.heap) σ7 H7 s7→NB (i+1) s7.heap∧∀b∈fp,H7 b=none:=fun {σ7 H7 s7} I7=>
     ⟨T.keep _ _ _ HP fun b hb o e=>(I7.pin (b,o) (List.mem_append_right _ (List.mem_append_right _ (gi hb e)))).1,fun b hb=>by
      obtain⟨o,e,_⟩:=T.obj _ _ HP b hb
      exact(I7.pin (b,o) (List.mem_append_right _ (List.mem_append_right _ (gi hb e)))).2.1⟩
    have Oh:yz X' tg n σ:=by subst uo;exact hg _ _ _ _ _ _ _
    have O0:kF X' ifs δt:=by subst uo;exact ht _ _ _ _ _ _
    have Oc:PD X' (fun _ _=>False) elt δe:=by subst uo;exact he _ _ _ _ _ _
    refine pass ?_
    rw[←AB]
    refine bG (Oh _ s2 (σt++σ) F3 H3 d ts x u I3' CW.fh (by rw[←O_];simp) rx (by rw[hK];exact q3) O2) ?_
    rintro _ s4 ⟨vt,I4,dt⟩
    rw[hK] at dt
    have S4:StE X.K F3 H3 (vt.map some++σ) (ts.map (fun t=>some (Sl.fz t))++ρ):=StE.cons ((S.ext e2).ext (vX.trans CW)) dt
    obtain⟨b,hb,ho⟩:=f7 ho
    refine pass ?_
    try rw[←AB]
    refine bG (O0 _ s4 _ H3 (fun b' H5=>b'=b∧∃F5,Ext F3 H3 F5 H5) I4 ⟨F3,_,by rw[hK];exact S4,by rw[hb];exact WPB.take⟩) ?_
    rintro b' s5 ⟨H5,I5,rfl,F5,FD⟩
    have KN:H5 s₂.heap.objs.size=some (.lst vs):=FD.hh _ _ MJ
    have MC:F5 s₂.heap.objs.size=none:=by rw[FD.old MJ (fun _ z=>nomatch z)];exact NR
    cases b' with
    |false=>
     rw[if_neg Bool.false_ne_true] at ho⊢
     obtain rfl:=er ho
     refine⟨ds.length - (i+1),by omega,i+1,F5,H5,vs,ys,vt.map some,rfl,dP,?_,I5.unpinned,(x3 I5).1,(x3 I5).2,vX.trans (CW.trans FD),KN,MC,DenL.mono (CW.trans FD).ff Ki,IJ⟩
     have h1:=I5.len
     have h2:=I3.len
     rw[List.length_append] at h1 h2
     omega
    |true=>
     rw[if_pos rfl] at ho⊢
     obtain⟨yv,hy,ho⟩:=f7 ho
     obtain rfl:=er ho
     refine pass ?_
     try rw[←AB]
     refine bG (Oc _ s5 _ H5 (fun v H6=>∃F6,Ext F5 H5 F6 H6∧Den X.K F6 yv v) I5 ⟨F5,_,by rw[hK];exact S4.ext FD,by rw[hy,hK];exact WP.take⟩) ?_
     rintro xv s6 ⟨v,H6,I6,rv,F6,J6,qv⟩
     have NY:H6 s₂.heap.objs.size=some (.lst vs):=J6.hh _ _ KN
     have MD:F6 s₂.heap.objs.size=none:=by rw[J6.old KN (fun _ z=>nomatch z)];exact MC
     have O5:vs.length<sizeLine:=by
      have:=Ki.len
      have:=dH
      omega
     refine pass ?_
     refine bG (qA _ s6 _ H6 (.ref s₂.heap.objs.size) [v] (.ref s₂.heap.objs.size) [xv] (fun _ H7=>H7=upd H6 s₂.heap.objs.size (.lst (vs++[v]))) I6 rfl (.cons rv .nil) ⟨_,vs,v,rfl,rfl,NY,O5,rfl⟩) ?_
     rintro _ s7 ⟨_,H7,I7,_,rfl⟩
     have NQ:Ext F2 H2 F6 (upd H6 s₂.heap.objs.size (.lst (vs++[v]))):=by
      have e:=vX.trans (CW.trans (FD.trans J6))
      refine⟨fun b u q=>?_,e.ff,fun b u q=>?_,e.new⟩
      ·rw[av (LW b u q)];exact e.hh b u q
      ·rw[av (fun z=>by rw[z,MD] at q;cases q)];exact e.fh b u q
     refine⟨ds.length - (i+1),by omega,i+1,F6,_,vs++[v],ys++[yv],vt.map some,rfl,dP,?_,I7.unpinned,(x3 I7).1,(x3 I7).2,NQ,az,MD,
      DenL.append (DenL.mono (CW.trans (FD.trans J6)).ff Ki) (.cons qv .nil),IJ⟩
     have h1:=I5.len
     have h2:=I3.len
     rw[List.length_append] at h1 h2
     omega
   ·
    have hi:i=ds.length:=by omega
    subst hi
    rw[List.drop_length] at heq
    have N4:R=ys:=by
     rw[heq] at hR
     have hR:M.ret (ys++[])=M.ret R:=hR
     rw[←er hR,List.append_nil]
    subst N4
    refine pass ?_
    rw[hP,hw]
    refine bG (T.done X' hP hw hK EZ ds.length [] s' (σt++σ) H' X'.xe I' (FG MF) oZ ((Nj F' H' ds.length vX.ff vX.fh).2 (Nat.le_refl _))) ?_
    rintro r s1 ⟨rfl,I1⟩
    obtain⟨m,hm,_⟩:=I1.loc
    rw[AB] at hm
    have NX:H' HL.objs.size=none:=by
     have:=I1.free
     rw[AB] at this
     exact this
    have u:=I1.base
    rw[Of,hex,N0,Nc] at u
    have uu:s1.os=s₂.os:=by have:=I1.os;rw[Nc] at this;exact this
    have IK:=I1.hok
    rw[hP,hw] at IK
    refine N3 s1 HL.objs.size s₂.heap.objs.size H' (I2.call' (s':=s1) (ch:=fp) uu u IK I1.bare (fun b hb=>⟨(f2 b hb).2.2.2.1,(f2 b hb).2.1,(f2 b hb).2.2.2.2.1,(f2 b hb).2.2.2.2.2⟩)) ?_
     ⟨⟨m,hm⟩,NX,Nat.ne_of_gt (Nat.lt_trans I2.lt yU),Nat.le_trans I2.sz (Nat.le_of_lt yU),fun x c q z=>?_,fun p hp z=>?_⟩
    rotate_left
    ·obtain⟨v,q'⟩:=I2.cell x c q
     exact absurd (Nat.lt_trans q'.lt yU) (by rw[z];exact Nat.lt_irrefl _)
    ·exact absurd (Nat.lt_trans (Heap.lt_size (I2.pin p hp).1) yU) (by rw[z];exact Nat.lt_irrefl _)
    refine WP.fin w2 (F':=upd F' s₂.heap.objs.size (.lst vs)) ⟨vX.hh,fun b u q=>?_,fun b u q=>?_,fun a ha=>?_⟩ ⟨_,vs,rfl,az,DenL.mono (fun b u q=>?_) Ki,MN⟩
    ·rw[av (fun z=>by have:=vX.ff b u q;rw[z,fD] at this;cases this)];exact vX.ff b u q
    ·by_cases z:b=s₂.heap.objs.size
     ·rw[z,az] at q;rw[z,hD];exact q
     ·rw[av z] at q;exact vX.fh b u q
    ·rcases vX.new a ha with q | q
     ·exact .inl (by rw[av (fun z=>ha (by rw[z];exact nD))];exact q)
     ·exact .inr q
    ·rw[av (fun z=>by rw[z,fD] at q;cases q)];exact q
  ·rw[OY]
   refine⟨0,F2,_,[],[],List.replicate (max n 1) none,by simp,Nat.zero_le _,by simp,I0,T.keep _ _ _ JS (fun b hb o e=>old b o e),fun b hb=>?_,⟨fun b u q=>?_,Same.refl _,fun b u q=>?_,fun _ _=> .inl rfl⟩,az,Same.free e2.fh nD,rfl,?_⟩
   ·rw[av (Nat.ne_of_lt (fl b hb))];exact(f2 b hb).1
   ·rw[av (LW b u q)];exact q
   ·rw[av (LW b u (e2.fh b u q))];exact e2.fh b u q
   ·rw[List.drop_zero]
    rcases(cj (d8 n δt δe ρ) ds).cs with hq | ⟨m,hq⟩ | ⟨R,hq⟩<;>rw[hq]<;>rfl
 exact codeAny_compStart_list (loop _ rfl) (T.self X.A 0 _ _ _ (T.keep _ _ _ JS (fun b hb o e=>old b o e)) (loop _ rfl))
theorem Inv.block{X:Cx}{pins:List (Addr×Obj)}{σ:St}{H':Hp}{s1:Shared}{C:Addr}{h':Heap}(I:Inv X pins σ H' s1)(b:BlockEnd X pins C H' s1)(C3:Heap.SameBut C s1.heap h'):Inv X pins σ H' {s1 with heap:=h'}:=
 I.turned (t':=s1.toks) (fun a o ha e=>(C3.2 a ha).trans e) b.free b.nl (.inr b.nw) b.nc b.np
section
variable{X:Cx}{Xw:Nat→Hp→Prop}{elt iter tg:Expr}{ifs:List Expr}{scope:Scope}{pos:Pos}{tn:List Str}{n:Nat}{δi:DA}{δt:DT}{δe:DE}
theorem cZ(sc:CompSc X scope tn)(hn:tn.length=max n 1)(hc:X.calm=true)(hi:yy X Xw tg iter δi)
 (hg:∀pins cl C fp s₂ H σ,yz (iS X scope tn pins cl C fp s₂ H) tg n σ)
 (ht:∀pins cl C fp s₂ H,kF (iS X scope tn pins cl C fp s₂ H) ifs δt)
 (he:∀pins cl C fp s₂ H,PD (iS X scope tn pins cl C fp s₂ H) (fun _ _=>False) elt δe)
 (hs:∀x,foldedSetIterable iter X.env x=pure x:=by intro _;rfl):
 PD X Xw (.ListComp elt [⟨tg,iter,ifs,0⟩] scope pos) (a9 n δi δt δe):=by
 intro pins s σ H Q I ⟨F,ρ,S,w⟩
 obtain⟨cl,AU,An,HF⟩:=ng (scope:=scope) (env:=X.env) fun y hy hf=>I.ok.has y.1 (sc.frees y hy hf)
 rw[eval_ListComp]
 refine wpAny_comprehension_free (use:=none) rfl hs AU sc.kind sc.names (tV (RR:=fun acc C=>compPost (model X.prog X.w) X.A X.xe none (EP X pins σ Q) acc C) sc hn hc hi hg ht he I S w An HF fun s1 C D H' I1 q b=>?_)
 obtain⟨m,hm⟩:=b.ns
 exact⟨m,hm,fun h' C3=>⟨.ref D,H',Inv.block I1 b C3,rfl,q⟩⟩
end
inductive Out where
 |nx (ρ:aY) | rt (d:D)
abbrev DS:=aY→M Out
structure StOk (K:W.Frag) (F₀ H₀ F H:Hp) (σ:St) (ρ:aY):Prop where
 ext:Ext F₀ H₀ F H
 st:StE K F H σ ρ
 len:ρ.length=σ.length
 own:∀(i:Nat) (c:C) (a:Addr),ρ[i]? =some (some (.ow c))→σ[i]? =some (some (.ref a))→H₀ a=none
 sep:∀(i j:Nat) (c c':C) (a:Addr),ρ[i]? =some (some (.ow c))→ρ[j]? =some (some (.ow c'))→σ[i]? =some (some (.ref a))→σ[j]? =some (some (.ref a))→i=j
def WPS(K:W.Frag)(Xw:Nat→Hp→Prop)(F₀ H₀:Hp)(m:M Out)(Dn:Ends):Prop:=
 match m with
 |none=>False
 |some (.ok (.nx ρ))=>∀σ F H,StOk K F₀ H₀ F H σ ρ→Dn.nx σ H
 |some (.ok (.rt d))=>∀v F H,Ext F₀ H₀ F H→Den K F d v→Dn.rt v H
 |some (.ex n)=>∀F H,Ext F₀ H₀ F H→Xw n H
def tS(K:W.Frag)(Xw:Nat→Hp→Prop)(F₀ H₀:Hp)(τ:DS):TS:=fun Dn σ H=>∃F ρ,StOk K F₀ H₀ F H σ ρ∧WPS K Xw F₀ H₀ (τ ρ) Dn
def fE(X:Cx)(Xw:Nat→Hp→Prop)(st:Stmt)(τ:DS):Prop:=∀F₀ H₀,PS X st (tS X.K Xw F₀ H₀ τ)
def PSDs(X:Cx)(Xw:Nat→Hp→Prop)(st:List Stmt)(τ:DS):Prop:=∀F₀ H₀,PSs X st (tS X.K Xw F₀ H₀ τ)
theorem PS.weak{X:Cx}{st:Stmt}{t t':TS}(h:PS X st t)(k:∀D σ H,t' D σ H→t D σ H):PS X st t':=fun pins s σ H D I w=>h pins s σ H D I (k D σ H w)
theorem PSs.weak{X:Cx}{st:List Stmt}{t t':TS}(h:PSs X st t)(k:∀D σ H,t' D σ H→t D σ H):PSs X st t':=fun pins s σ H D I w=>h pins s σ H D I (k D σ H w)
section
variable{K:W.Frag}{Xw:Nat→Hp→Prop}{F₀ H₀ F H F' H':Hp}{σ:St}{ρ:aY}
theorem StOk.ext'(s:StOk K F₀ H₀ F H σ ρ)(e:Ext F H F' H'):StOk K F₀ H₀ F' H' σ ρ:=⟨s.ext.trans e,s.st.ext e,s.len,s.own,s.sep⟩
theorem StOk.set(s:StOk K F₀ H₀ F H σ ρ){i:Nat}{d:D}{v:V}(h:Den K F d v):StOk K F₀ H₀ F H (σ.set i (some v)) (ρ.set i (some (.fz d))):=by
 have hl:=s.len
 have get:∀(j:Nat) (sl:Sl),(ρ.set i (some (.fz d)))[j]? =some (some sl)→(j=i∧i<ρ.length∧sl= .fz d)∨(j≠i∧ρ[j]? =some (some sl)):=fun j sl e=>by
  by_cases hj:j=i
  ·subst hj
   have hi:j<ρ.length:=by
    have:=(List.getElem?_eq_some_iff.mp e).1
    simpa using this
   rw[List.getElem?_set_self hi] at e
   cases e
   exact .inl ⟨rfl,hi,rfl⟩
  ·rw[List.getElem?_set_ne (Ne.symm hj)] at e
   exact .inr ⟨hj,e⟩
 refine⟨s.ext,⟨s.st.fh,fun j sl e=>?_⟩,by simp[hl],fun j c a e e'=>?_,fun j k c c' a e1 e2 e3 e4=>?_⟩
 ·rcases get j sl e with⟨rfl,hi,rfl⟩ | ⟨hj,e⟩
  ·exact⟨v,by rw[List.getElem?_set_self (by omega)],h⟩
  ·obtain⟨u,h1,h2⟩:=s.st.den j sl e
   exact⟨u,by rw[List.getElem?_set_ne (Ne.symm hj)];exact h1,h2⟩
 ·rcases get j _ e with⟨_,_,z⟩ | ⟨hj,e⟩
  ·cases z
  ·rw[List.getElem?_set_ne (Ne.symm hj)] at e'
   exact s.own j c a e e'
 ·rcases get j _ e1 with⟨_,_,z⟩ | ⟨hj,e1⟩
  ·cases z
  ·rcases get k _ e2 with⟨_,_,z⟩ | ⟨hk,e2⟩
   ·cases z
   ·rw[List.getElem?_set_ne (Ne.symm hj)] at e3
    rw[List.getElem?_set_ne (Ne.symm hk)] at e4
    exact s.sep j k c c' a e1 e2 e3 e4
theorem StOk.setNew(s:StOk K F₀ H₀ F H σ ρ){i:Nat}{a:Addr}{o:HO}{c₀:C}(n:H a=none)(h:DenC K F c₀ o):
 StOk K F₀ H₀ F (upd H a o) (σ.set i (some (.ref a))) (ρ.set i (some (.ow c₀))):=by
 have hle:=s.len
 have e0:=Ext.free (o:=o) s.st.fh n
 have nF:F a=none:=Same.free s.st.fh n
 have get:∀(j:Nat) (sl:Sl),(ρ.set i (some (.ow c₀)))[j]? =some (some sl)→(j=i∧i<ρ.length∧sl= .ow c₀)∨(j≠i∧ρ[j]? =some (some sl)):=fun j sl e=>by
  by_cases hj:j=i
  ·subst hj
   have hi:j<ρ.length:=by
    have:=(List.getElem?_eq_some_iff.mp e).1
    simpa using this
   rw[List.getElem?_set_self hi] at e
   cases e
   exact .inl ⟨rfl,hi,rfl⟩
  ·rw[List.getElem?_set_ne (Ne.symm hj)] at e
   exact .inr ⟨hj,e⟩
 have old:∀(j:Nat) (c:C) (b:Addr),ρ[j]? =some (some (.ow c))→σ[j]? =some (some (.ref b))→b≠a:=fun j c b e e' z=>by
  obtain⟨u,h1,b',o,h2,h3,_⟩:=s.st.den j _ e
  rw[h1] at e'
  cases e'
  cases h2
  rw[z,n] at h3
  cases h3
 refine⟨s.ext.trans e0,⟨e0.fh,fun j sl e=>?_⟩,by simp[hle],fun j c b e e'=>?_,fun j k c c' b e1 e2 e3 e4=>?_⟩
 ·rcases get j sl e with⟨rfl,hi,rfl⟩ | ⟨hj,e⟩
  ·exact⟨.ref a,by rw[List.getElem?_set_self (by omega)],a,_,rfl,az,nF,h⟩
  ·obtain⟨u,h1,h2⟩:=s.st.den j sl e
   exact⟨u,by rw[List.getElem?_set_ne (Ne.symm hj)];exact h1,h2.ext e0⟩
 ·rcases get j _ e with⟨rfl,hi,_⟩ | ⟨hj,e⟩
  ·rw[List.getElem?_set_self (by omega)] at e'
   cases e'
   exact Same.free s.ext.hh n
  ·rw[List.getElem?_set_ne (Ne.symm hj)] at e'
   exact s.own j c b e e'
 ·rcases get j _ e1 with⟨rfl,hi,_⟩ | ⟨hj,e1⟩
  ·rw[List.getElem?_set_self (by omega)] at e3
   cases e3
   rcases get k _ e2 with⟨rfl,_,_⟩ | ⟨hk,e2⟩
   ·rfl
   ·rw[List.getElem?_set_ne (Ne.symm hk)] at e4
    exact absurd rfl (old k c' a e2 e4)
  ·rcases get k _ e2 with⟨Li,hi,_⟩ | ⟨hk,e2⟩
   ·rw[Li,List.getElem?_set_self (by omega)] at e4
    cases e4
    rw[List.getElem?_set_ne (Ne.symm hj)] at e3
    exact absurd rfl (old j c a (by assumption) e3)
   ·rw[List.getElem?_set_ne (Ne.symm hj)] at e3
    rw[List.getElem?_set_ne (Ne.symm hk)] at e4
    exact s.sep j k c c' b e1 e2 e3 e4
theorem StOk.chg(s:StOk K F₀ H₀ F H σ ρ){i:Nat}{a:Addr}{c c₀:C}{o₀:HO}(hi:ρ[i]? =some (some (.ow c)))(ha:σ[i]? =some (some (.ref a)))(h:DenC K F c₀ o₀):
 StOk K F₀ H₀ F (upd H a o₀) σ (ρ.set i (some (.ow c₀))):=by
 have hle:=s.len
 have h0:=s.own i c a hi ha
 obtain⟨u,q1,a',o,q2,q3,q4,q5⟩:=s.st.den i _ hi
 rw[ha] at q1
 cases q1
 cases q2
 have Lb:i<ρ.length:=(List.getElem?_eq_some_iff.mp hi).1
 have get:∀(j:Nat) (sl:Sl),(ρ.set i (some (.ow c₀)))[j]? =some (some sl)→(j=i∧sl= .ow c₀)∨(j≠i∧ρ[j]? =some (some sl)):=fun j sl e=>by
  by_cases hj:j=i
  ·subst hj
   rw[List.getElem?_set_self Lb] at e
   cases e
   exact .inl ⟨rfl,rfl⟩
  ·rw[List.getElem?_set_ne (Ne.symm hj)] at e
   exact .inr ⟨hj,e⟩
 have fh:Same F (upd H a o₀):=fun b o e=>by
  rw[av (fun z=>by rw[z,q4] at e;cases e)];exact s.st.fh b o e
 refine⟨⟨fun b o e=>?_,s.ext.ff,fh,s.ext.new⟩,⟨fh,fun j sl e=>?_⟩,by simp[hle],fun j c' b e e'=>?_,fun j k c1 c2 b e1 e2 e3 e4=>?_⟩
 ·rw[av (fun z=>by rw[z,h0] at e;cases e)];exact s.ext.hh b o e
 ·rcases get j sl e with⟨rfl,rfl⟩ | ⟨hj,e⟩
  ·exact⟨.ref a,ha,a,_,rfl,az,q4,h⟩
  ·obtain⟨u,h1,h2⟩:=s.st.den j sl e
   refine⟨u,h1,?_⟩
   cases sl with
   |fz d=>exact h2
   |ow c'=>
    obtain⟨b,o',r1,r2,r3,r4⟩:=h2
    refine⟨b,o',r1,?_,r3,r4⟩
    rw[av (fun z=>hj (s.sep j i c' c a e hi (by rw[h1,r1,z]) ha))];exact r2
 ·rcases get j _ e with⟨rfl,_⟩ | ⟨hj,e⟩
  ·rw[ha] at e';cases e';exact h0
  ·exact s.own j c' b e e'
 ·have k1:∃c,ρ[j]? =some (some (.ow c)):=by
   rcases get j _ e1 with⟨rfl,_⟩ | ⟨_,e⟩
   ·exact⟨c,hi⟩
   ·exact⟨_,e⟩
  have k2:∃c,ρ[k]? =some (some (.ow c)):=by
   rcases get k _ e2 with⟨rfl,_⟩ | ⟨_,e⟩
   ·exact⟨c,hi⟩
   ·exact⟨_,e⟩
  obtain⟨_,k1⟩:=k1
  obtain⟨_,k2⟩:=k2
  exact s.sep j k _ _ b k1 k2 e3 e4
def frz(i:Nat)(ρ:aY):aY:=match ρ[i]? with
 |some (some (.ow c))=>ρ.set i (some (.fz c.d))
 |_=>ρ
theorem StOk.frz(s:StOk K F₀ H₀ F H σ ρ)(i:Nat)(obj:Addr→Obj):(∃a o,H a=some o∧DenC K F (ρ[i]?.elim (.lst []) fun x=>x.elim (.lst []) fun y=>match y with | .ow c=>c | _=> .lst []) o∧σ[i]? =some (some (.ref a))∧StOk K F₀ H₀ (upd F a (gQ (obj a) o)) (upd H a (gQ (obj a) o)) σ (frz i ρ))∨frz i ρ=ρ:=by
 unfold L3.frz
 split
 ·rename_i c₀ hi
  have hle:=s.len
  obtain⟨u,ha,a,o,rfl,q3,q4,yX⟩:=s.st.den i _ hi
  refine .inl ⟨a,o,q3,by rw[hi];exact yX,ha,?_⟩
  have h0:=s.own i _ a hi ha
  have Lb:i<ρ.length:=(List.getElem?_eq_some_iff.mp hi).1
  have ff:Same F (upd F a (gQ (obj a) o)):=fun b o e=>by rw[av (fun z=>by rw[z,q4] at e;cases e)];exact e
  have fh:Same (upd F a (gQ (obj a) o)) (upd H a (gQ (obj a) o)):=fun b o e=>by
   by_cases z:b=a
   ·rw[z,az] at e⊢;exact e
   ·rw[av z] at e⊢;exact s.st.fh b o e
  have get:∀(j:Nat) (sl:Sl),(ρ.set i (some (.fz c₀.d)))[j]? =some (some sl)→(j=i∧sl= .fz c₀.d)∨(j≠i∧ρ[j]? =some (some sl)):=fun j sl e=>by
   by_cases hj:j=i
   ·subst hj
    rw[List.getElem?_set_self Lb] at e
    cases e
    exact .inl ⟨rfl,rfl⟩
   ·rw[List.getElem?_set_ne (Ne.symm hj)] at e
    exact .inr ⟨hj,e⟩
  refine⟨⟨fun b u q=>?_,s.ext.ff.trans ff,fh,fun b hb=>?_⟩,⟨fh,fun j sl e=>?_⟩,by simp[hle],fun j c' b e e'=>?_,fun j k c1 c2 b e1 e2 e3 e4=>?_⟩
  ·rw[av (fun z=>by rw[z,h0] at q;cases q)];exact s.ext.hh b u q
  ·rcases s.ext.new b hb with q | q
   ·exact .inl (by rw[av (fun z=>hb (by rw[z];exact h0))];exact q)
   ·exact .inr q
  ·rcases get j sl e with⟨rfl,rfl⟩ | ⟨hj,e⟩
   ·exact⟨.ref a,ha,DenC.den yX ff az⟩
   ·obtain⟨u,h1,h2⟩:=s.st.den j sl e
    refine⟨u,h1,?_⟩
    cases sl with
    |fz d=>exact Den.mono ff h2
    |ow c'=>
     obtain⟨b,o',r1,r2,r3,r4⟩:=h2
     have fL:b≠a:=fun z=>hj (s.sep j i c' _ a e hi (by rw[h1,r1,z]) ha)
     exact⟨b,o',r1,by rw[av fL];exact r2,by rw[av fL];exact r3,DenC.mono ff r4⟩
  ·rcases get j _ e with⟨_,z⟩ | ⟨hj,e⟩
   ·cases z
   ·exact s.own j c' b e e'
  ·rcases get j _ e1 with⟨_,z⟩ | ⟨_,e1⟩
   ·cases z
   ·rcases get k _ e2 with⟨_,z⟩ | ⟨_,e2⟩
    ·cases z
    ·exact s.sep j k _ _ b e1 e2 e3 e4
 ·exact .inr rfl
end
def join(F H:Hp):Hp:=fun a=>match F a with
 |some o=>some o
 |none=>H a
theorem StOk.rebase{K:W.Frag}{F₀ H₀ F H:Hp}{σ:St}{ρ:aY}(s:StOk K F₀ H₀ F H σ ρ):StOk K F (join F H₀) F H σ ρ∧∀F' H',Ext F (join F H₀) F' H'→Ext F₀ H₀ F' H':=by
 have hj:Same (join F H₀) H:=fun b o e=>by
  unfold join at e
  cases q:F b with
  |some u=>rw[q] at e;cases e;exact s.st.fh b _ q
  |none=>rw[q] at e;exact s.ext.hh b o e
 have h0:Same H₀ (join F H₀):=fun b o e=>by
  unfold join
  cases q:F b with
  |some u=>
   have h1:=s.st.fh b u q
   rw[s.ext.hh b o e] at h1
   exact h1.symm
  |none=>exact e
 refine⟨⟨⟨hj,Same.refl _,s.st.fh,fun _ _=> .inl rfl⟩,s.st,s.len,fun i c a e e'=>?_,s.sep⟩,fun F' H' x=>⟨h0.trans x.hh,s.ext.ff.trans x.ff,x.fh,fun a ha=>?_⟩⟩
 ·have h1:=s.own i c a e e'
  obtain⟨v,q1,a',o,q2,q3,q4,_⟩:=s.st.den i _ e
  rw[e'] at q1
  cases q1
  cases q2
  unfold join
  rw[q4]
  exact h1
 ·have:join F H₀ a≠none:=by
   cases q:H₀ a with
   |none=>exact absurd q ha
   |some o=>rw[h0 a o q];exact fun z=>nomatch z
  rcases s.ext.new a ha with p | p
  ·rcases x.new a this with q | ⟨ts,q⟩
   ·exact .inl (q.trans p)
   ·cases z:H₀ a with
    |none=>exact absurd z ha
    |some o=>
     rw[h0 a o z] at q
     exact .inr ⟨ts,q⟩
  ·exact .inr p
theorem StOk.unbase{K:W.Frag}{F₀ H₀ F U F' H':Hp}{σ:St}{ρ:aY}(k:∀F' H',Ext F U F' H'→Ext F₀ H₀ F' H')(s:StOk K F U F' H' σ ρ)(h:Same H₀ U):StOk K F₀ H₀ F' H' σ ρ:=
 ⟨k _ _ s.ext,s.st,s.len,fun i c a e e'=>Same.free h (s.own i c a e e'),s.sep⟩
theorem za{K:W.Frag}{F₀ H₀ F H:Hp}{σ:St}{ρ:aY}(s:StOk K F₀ H₀ F H σ ρ):Same H₀ (join F H₀):=fun b o e=>by
 unfold join
 cases q:F b with
 |some u=>
  have h1:=s.st.fh b u q
  rw[s.ext.hh b o e] at h1
  exact h1.symm
 |none=>exact e
theorem Inv.refrz{X:Cx}{pins:List (Addr×Obj)}{σ:St}{H:Hp}{s:Shared}{a:Addr}{o o':HO}(I:Inv X pins σ H s)(e:H a=some o)
 (ho:o'=o∨∃u,o'= .frz ((s.heap.get? a).getD {cls:= .none,data:= .fields #[]}) u∧((∃k,o= .dT k∧u= .dT k)∨∃k,o= .dK k∧u= .dK k)):Inv X pins σ (upd H a o') s:=by
 rcases ho with rfl | ⟨u,rfl,hu⟩
 ·have:upd H a o'=H:=by
   funext b
   by_cases z:b=a
   ·rw[z,az,e]
   ·rw[av z]
  rw[this];exact I
 have OM:o=u:=by rcases hu with⟨k,h1,h2⟩ | ⟨k,h1,h2⟩<;>rw[h1,h2]
 subst OM
 have nt:∀ts,o≠ .tup ts:=fun ts z=>by rcases hu with⟨k,h1,_⟩ | ⟨k,h1,_⟩<;>rw[h1] at z<;>cases z
 have nf:∀ob v,o≠ .frz ob v:=fun ob v z=>by rcases hu with⟨k,h1,_⟩ | ⟨k,h1,_⟩<;>rw[h1] at z<;>cases z
 have nb:∀p,o≠ .tbl p:=fun p z=>by rcases hu with⟨k,h1,_⟩ | ⟨k,h1,_⟩<;>rw[h1] at z<;>cases z
 have no:∀p,o≠ .own p:=fun p z=>by rcases hu with⟨k,h1,_⟩ | ⟨k,h1,_⟩<;>rw[h1] at z<;>cases z
 have ne:∀b,H b=none→b≠a:=fun b hb z=>by rw[z,e] at hb;cases hb
 have hk:=I.hok a o e
 have dP:=hk.lt
 obtain⟨ob,IV⟩:∃ob,s.heap.get? a=some ob:=by
  rcases hu with⟨k,h1,_⟩ | ⟨k,h1,_⟩
  ·subst h1;obtain⟨_,_,_,_,ob,_,_,q,_⟩:=hk;exact⟨ob,q⟩
  ·subst h1;obtain⟨_,_,_,_,ob,_,_,q,_⟩:=hk;exact⟨ob,q⟩
 rw[IV]
 refine⟨I.ok,I.os,I.bare,⟨I.base.keep,I.base.slot,fun b q h1 h2 h3=>?_,I.base.there,fun b xs q=>?_,fun b q1 v q=>?_,fun b ps q=>?_⟩,I.loc,I.cell,?_,fun x c q=>?_,fun p hp=>?_,fun b v q=>?_,I.len⟩
 ·have:=I.base.free b q h1 h2 h3
  rw[av (ne b this)];exact this
 ·have:=I.base.tups b xs q
  rw[av (fun z=>by rw[z,e] at this;exact nt xs (Option.some.inj this))];exact this
 ·have:=I.base.frzs b q1 v q
  rw[av (fun z=>by rw[z,e] at this;exact nf _ _ (Option.some.inj this))];exact this
 ·obtain⟨m,this⟩:=I.base.tbls b ps q
  exact⟨m,by rw[av (fun z=>by rw[z,e] at this;exact nb _ (Option.some.inj this))];exact this⟩
 ·rw[av (ne _ I.free)];exact I.free
 ·rw[av (ne _ (I.freeC x c q))];exact I.freeC x c q
 ·obtain⟨h1,h2,h3⟩:=I.pin p hp
  exact⟨h1,by rw[av (ne _ h2)];exact h2,h3⟩
 ·have st:∀{c:Addr}{v:HO},ObjOk X.prog X.w H s.heap c v→ObjOk X.prog X.w (upd H a (.frz ob o)) s.heap c v:=fun {c v} k=>k.stay (fun _ _ _ q=>q)
   (fun c' q=>by rw[av (fun z=>by rw[z,e] at q;exact no _ (Option.some.inj q))];exact q) fun c' xs q=>by rw[av (fun z=>by rw[z,e] at q;exact nt _ (Option.some.inj q))];exact q
  by_cases z:b=a
  ·subst z
   rw[show (some ob).getD _=ob from rfl,az] at q
   cases q
   exact⟨IV,st hk⟩
  ·rw[av z] at q
   exact st (I.hok b v q)
def aG(a b:DS):DS:=fun ρ=>a ρ>>=fun o=>match o with | .nx ρ'=>b ρ' | .rt d=>M.ret (.rt d)
def b_:DS:=fun ρ=>M.ret (.nx ρ)
def bc(δ:DE):DS:=fun ρ=>δ ρ>>=fun d=>M.ret (.rt d)
def iO(δ:DE):DS:=fun ρ=>δ ρ>>=fun _=>M.ret (.nx ρ)
def cx(i:Nat)(δ:DE):DS:=fun ρ=>δ ρ>>=fun d=>M.ret (.nx (ρ.set i (some (.fz d))))
def fk(c:DT)(a b:DS):DS:=fun ρ=>c ρ>>=fun x=>if x then a ρ else b ρ
def Cj(i:Nat)(a:DS):DS:=fun ρ=>a (frz i ρ)
def wU(i:Nat):DS:=fun ρ=>M.ret (.nx (ρ.set i (some (.ow (.lst [])))))
def zC(ρ:aY)(i:Nat):Option (List D):=match ρ[i]? with
 |some (some (.ow (.lst ds)))=>some ds
 |_=>none
theorem qL{ρ:aY}{i:Nat}{ds:List D}(h:zC ρ i=some ds):ρ[i]? =some (some (.ow (.lst ds))):=by
 unfold zC at h
 split at h
 ·rename_i ds' e
  cases h
  exact e
 ·cases h
def mI(i:Nat)(δ:DE):DS:=fun ρ=>match zC ρ i with
 |some ds=>δ ρ>>=fun d=>if ds.length<lim then M.ret (.nx (ρ.set i (some (.ow (.lst (ds++[d])))))) else M.stuck
 |none=>M.stuck
def Cg(i:Nat)(δ:DE):DS:=fun ρ=>match zC ρ i with
 |some ds=>δ ρ>>=fun d=>lstM d>>=fun es=>if ds.length+es.length≤lim then M.ret (.nx (ρ.set i (some (.ow (.lst (ds++es)))))) else M.stuck
 |none=>M.stuck
def forL(put:D→aY→Option aY)(body:DS):List D→DS
 |[],ρ=>M.ret (.nx ρ)
 |d::ds,ρ=>(match put d ρ with | none=>M.stuck | some ρ1=>body ρ1>>=fun o=>match o with | .nx ρ2=>forL put body ds ρ2 | .rt v=>M.ret (.rt v))
def putN(i:Nat):D→aY→Option aY:=fun d ρ=>some (ρ.set i (some (.fz d)))
def fj(put:D→aY→Option aY)(δi:DA)(body:DS):DS:=fun ρ=>δi ρ>>=fun ds=>forL put body ds ρ
section
variable{X:Cx}{Xw:Nat→Hp→Prop}{F₀ H₀:Hp}{st:Stmt}{rest:List Stmt}{τ τ':DS}{e:Expr}{δ:DE}{pos:Pos}
theorem aW:PSDs X Xw [] b_:=fun F₀ H₀=>PSs.weak El fun D σ H ⟨F,ρ,s,w⟩=>w σ F H s
theorem aq(h1:fE X Xw st τ)(h2:PSDs X Xw rest τ'):PSDs X Xw (st::rest) (aG τ τ'):=fun F₀ H₀=>PSs.weak (B0 (h1 F₀ H₀) (h2 F₀ H₀)) fun D σ H ⟨F,ρ,s,w⟩=>by
 refine⟨F,ρ,s,?_⟩
 unfold aG at w
 match τ ρ,w with
 |none,w=>exact w
 |some (.ok (.nx ρ')),w=>exact fun σ' F' H' s'=>⟨F',ρ',s',w⟩
 |some (.ok (.rt d)),w=>exact w
 |some (.ex n),w=>exact w
theorem ao(h1:fE X Xw st τ):PSDs X Xw [st] τ:=fun F₀ H₀=>Em (h1 F₀ H₀)
theorem e9{i:Nat}(h:fE X Xw st τ):fE X Xw st (Cj i τ):=fun F₀ H₀ pins sh σ H D I ⟨F,ρ,s,w⟩=>by
 rcases s.frz i (fun a=>(sh.heap.get? a).getD {cls:= .none,data:= .fields #[]}) with⟨a,o,ha,hc,hσ,s'⟩ | e
 ·refine h F₀ H₀ pins sh σ _ D (L3.Inv.refrz I ha ?_) ⟨_,_,s',w⟩
  generalize (ρ[i]?.elim (C.lst []) fun x=>x.elim (.lst []) fun y=>match y with | .ow c=>c | _=> .lst [])=c at hc
  cases c with
  |lst ds=>obtain⟨vs,rfl,_⟩:=hc;exact .inl rfl
  |dct ks ds=>obtain⟨vs,rfl,_⟩:=hc;exact .inr ⟨_,rfl, .inl ⟨_,rfl,rfl⟩⟩
  |dci ks ds=>obtain⟨vs,rfl,_⟩:=hc;exact .inr ⟨_,rfl, .inr ⟨_,rfl,rfl⟩⟩
 ·exact h F₀ H₀ pins sh σ H D I ⟨F,ρ,s,by unfold Cj at w;rw[e] at w;exact w⟩
theorem ax(h:PD X Xw e δ):fE X Xw (.Return (some e) pos) (bc δ):=fun F₀ H₀=>PS.weak (Ha h) fun D σ H ⟨F,ρ,s,w⟩=>by
 refine⟨F,ρ,s.st,?_⟩
 unfold bc at w
 match δ ρ,w with
 |none,w=>exact w
 |some (.ok d),w=>exact fun v H' F' e' q=>w v F' H' (s.ext.trans e') q
 |some (.ex n),w=>exact fun F' H' e'=>w F' H' (s.ext.trans e')
theorem c0(h:PD X Xw e δ)(hs:swapsWith e none pos.line X.env=pure false:=by rfl):fE X Xw (.Expr e pos) (iO δ):=fun F₀ H₀=>PS.weak (mT h hs) fun D σ H ⟨F,ρ,s,w⟩=>by
 refine⟨F,ρ,s.st,?_⟩
 unfold iO at w
 match δ ρ,w with
 |none,w=>exact w
 |some (.ok d),w=>exact fun v H' F' e' q=>w σ F' H' (s.ext' e')
 |some (.ex n),w=>exact fun F' H' e'=>w F' H' (s.ext.trans e')
theorem bb{i:Nat}{x:Str}{pos':Pos}(hN:X.N.Nodup)(hi:X.N[i]? =some x)(hx:Loc X.env.scope x)(he:PD X Xw e δ)(hf:X.fn x=true∨X.env.scope.names.lookup x=some .local:=by first | exact .inl rfl | exact .inr rfl)
 (hs:swapsWithSole [.Name x pos'] e pos.line X.env=pure false:=by rfl):
 fE X Xw (.Assign [.Name x pos'] e pos) (cx i δ):=fun F₀ H₀=>PS.weak (k7 he (ba hN hi hx hf) hs) fun D σ H ⟨F,ρ,s,w⟩=>by
 refine⟨F,ρ,s.st,?_⟩
 unfold cx at w
 match δ ρ,w with
 |none,w=>exact w
 |some (.ok d),w=>exact fun v H' F' e' q=>w _ F' H' ((s.ext' e').set q)
 |some (.ex n),w=>exact fun F' H' e'=>w F' H' (s.ext.trans e')
theorem l_{elt iter tg:Expr}{ifs:List Expr}{scope:Scope}{a6:Pos}{tn:List Str}{n:Nat}{δi:DA}{δt:DT}{δe:DE}{i:Nat}{x:Str}{pos':Pos}(hN:X.N.Nodup)(tL:X.N[i]? =some x)(hx:Loc X.env.scope x)
 (sc:CompSc X scope tn)(hn:tn.length=max n 1)(hc:X.calm=true)(hi:yy X Xw tg iter δi)
 (hg:∀pins cl C fp s₂ H σ,yz (iS X scope tn pins cl C fp s₂ H) tg n σ)
 (ht:∀pins cl C fp s₂ H,kF (iS X scope tn pins cl C fp s₂ H) ifs δt)
 (he:∀pins cl C fp s₂ H,PD (iS X scope tn pins cl C fp s₂ H) (fun _ _=>False) elt δe)
 (hf:X.fn x=true∨X.env.scope.names.lookup x=some .local:=by first | exact .inl rfl | exact .inr rfl)
 (OX:swapsWith (.ListComp elt [⟨tg,iter,ifs,0⟩] scope a6) (some (.Name x pos')) pos.line X.env=pure true:=by rfl)
 (hs:∀x,foldedSetIterable iter X.env x=pure x:=by intro _;rfl):
 fE X Xw (.Assign [.Name x pos'] (.ListComp elt [⟨tg,iter,ifs,0⟩] scope a6) pos) (cx i (a9 n δi δt δe)):=fun F₀ H₀ pins s σ H D I ⟨F,ρ,S,w⟩=>by
 obtain⟨cl,AU,An,HF⟩:=ng (scope:=scope) (env:=X.env) fun y hy hf=>I.ok.has y.1 (sc.frees y hy hf)
 have w':WP X.K Xw F H (a9 n δi δt δe ρ) (fun v H'=>D.nx (σ.set i (some v)) H'):=by
  have w:WPS X.K Xw F₀ H₀ (a9 n δi δt δe ρ>>=fun d=>M.ret (.nx (ρ.set i (some (.fz d))))) D:=w
  match a9 n δi δt δe ρ,w with
  |none,w=>exact w
  |some (.ok d),w=>exact fun v H' F' e' q=>w _ F' H' ((S.ext' e').set q)
  |some (.ex n),w=>exact fun F' H' e'=>w F' H' (S.ext.trans e')
 rw[exec_Assign_Name_used _ _ _ _ OX]
 refine wpAny_bind (wpAny_standAt (wpAny_bind ?_))
 show wpAny _ X.A (do let _←comprehension (.ListComp elt [⟨tg,iter,ifs,0⟩] scope a6) scope X.env _ (newList []) false (eval iter X.env) (some (assign (.Name x pos') X.env))) _ _ s
 refine wpAny_bind (wpAny_mono (wpAny_comprehension_free (use:=some (assign (.Name x pos') X.env)) (Q:=fun _ s'=>SP X pins D .next s') rfl hs AU sc.kind sc.names
  (tV (RR:=fun acc C=>compPost (model X.prog X.w) X.A X.xe (some (assign (.Name x pos') X.env)) (fun _ s'=>SP X pins D .next s') acc C) sc hn hc hi hg ht he I S.st w' An HF fun s1 C D' H' I1 q b=>?_)) (fun _ s' hq=>wpAny_pure (wpAny_pure hq)) fun _ _ e=>e)
 show wpAny _ X.A (assign (.Name x pos') X.env (.ref D')) _ _ _
 refine wpAny_assign_Name (rj I1 hN tL hx (v:= .ref D') rfl (fun s2 I2 ⟨a,sb,ha⟩=>?_) hf)
 have NW:C≠a:=by
  rcases ha with z | z
  ·rw[z];exact b.nl
  ·exact Ne.symm (b.nc x a z)
 obtain⟨m,hm⟩:=b.ns
 have F7:s2.heap.Ns C m:=hm.sameBut sb NW
 refine⟨m,F7,fun h' C3=>⟨_,H',Inv.block I2 ⟨⟨m,F7⟩,b.free,b.nl,b.nw,b.nc,b.np⟩ C3,q⟩⟩
theorem bp{c:Expr}{a b:List Stmt}{tc:DT}(hc:rp X Xw c tc)(ha:PSDs X Xw a τ)(hb:PSDs X Xw b τ'):fE X Xw (.If c a b pos) (fk tc τ τ'):=fun F₀ H₀=>PS.weak (Jy hc (ha F₀ H₀) (hb F₀ H₀)) fun D σ H ⟨F,ρ,s,w⟩=>by
 refine⟨F,ρ,s.st,?_⟩
 unfold fk at w
 match tc ρ,w with
 |none,w=>exact w
 |some (.ok true),w=>exact fun H' F' e'=>⟨F',ρ,s.ext' e',w⟩
 |some (.ok false),w=>exact fun H' F' e'=>⟨F',ρ,s.ext' e',w⟩
 |some (.ex n),w=>exact fun F' H' e'=>w F' H' (s.ext.trans e')
theorem j7{i:Nat}{x:Str}{pos' sI:Pos}(hN:X.N.Nodup)(hi:X.N[i]? =some x)(hx:Loc X.env.scope x)(hf:X.fn x=true∨X.env.scope.names.lookup x=some .local:=by first | exact .inl rfl | exact .inr rfl):
 fE X Xw (.Assign [.Name x pos'] (.List [] sI) pos) (wU i):=fun F₀ H₀=>PS.weak (k7 (BV sC) (ba hN hi hx hf) rfl) fun D σ H ⟨F,ρ,s,w⟩=>by
 refine⟨Nat.zero_le _,fun p hp=>?_⟩
 exact w _ F _ (s.setNew (c₀:= .lst []) hp ⟨[],rfl,rfl,Nat.zero_le _⟩)
def xo(K:W.Frag)(g:TG)(put:D→aY→Option aY):Prop:=∀(F₀ H₀ F H:Hp) (σ:St) (ρ ρ':aY) (d:D) (v:V) (Q:St→Hp→Prop),StOk K F₀ H₀ F H σ ρ→Den K F d v→put d ρ=some ρ'→
 (∀σ',StOk K F₀ H₀ F H σ' ρ'→Q σ' H)→g v σ H Q
theorem cX{K:W.Frag}{i:Nat}:xo K (AO i) (putN i):=fun F₀ H₀ F H σ ρ ρ' d v Q s q e k=>by
 cases e
 exact k _ (s.set q)
def Pq(K:W.Frag)(Xw:Nat→Hp→Prop)(τ:DS):TS:=fun D σ H=>∃F₀ H₀,tS K Xw F₀ H₀ τ D σ H
theorem PSDs.ex{body:List Stmt}(h:PSDs X Xw body τ):PSs X body (Pq X.K Xw τ):=fun pins s σ H D I ⟨F₀,H₀,w⟩=>h F₀ H₀ pins s σ H D I w
theorem c5{tg iter:Expr}{body:List Stmt}{δi:DA}{g:TG}{put:D→aY→Option aY}(hp:PassesOwn (model X.prog X.w) X.A X.env X.xe)(hc:X.calm=true)(hi:yy X Xw tg iter δi)(hg:PG X tg g)(A2:xo X.K g put)(hb:PSDs X Xw body τ)
 (hs:∀x,foldedSetIterable iter X.env x=pure x:=by intro _;rfl):fE X Xw (.For tg iter body [] pos) (fj put δi τ):=fun F₀ H₀=>PS.weak (G_ hp hc hi hg hb.ex hs) fun D σ H ⟨F,ρ,s,w⟩=>by
 refine⟨F,ρ,s.st,?_⟩
 unfold fj at w
 match δi ρ,w with
 |none,w=>exact w
 |some (.ex n),w=>exact fun F' H' e'=>w F' H' (s.ext.trans e')
 |some (.ok ds),w=>
  have w:WPS X.K Xw F₀ H₀ (forL put τ ds ρ) D:=w
  intro J H1 F1 e1 Nm
  obtain⟨s1,back⟩:=(s.ext' e1).rebase
  have hU:=za (s.ext' e1)
  generalize join F1 H₀=U at s1 back hU
  refine⟨fun i m σ H=>m=ds.length - i∧i≤ds.length∧∃F ρ,StOk X.K F1 U F H σ ρ∧WPS X.K Xw F₀ H₀ (forL put τ (ds.drop i) ρ) D,⟨ds.length,by simp,Nat.zero_le _,F1,ρ,s1,by simpa using w⟩,?_⟩
  rintro i m σ2 H2 ⟨rfl,Lc,F2,ρ2,s2,w2⟩
  by_cases dP:i<ds.length
  ·obtain⟨d,hd⟩:∃d,ds[i]? =some d:=⟨_,List.getElem?_eq_getElem dP⟩
   obtain⟨K_,Gg⟩:=(Nm F2 H2 i s2.ext.ff s2.st.fh).1 d hd
   have ed:ds.drop i=d::ds.drop (i+1):=by
    obtain⟨hi,e⟩:=List.getElem?_eq_some_iff.mp hd
    rw[List.drop_eq_getElem_cons hi,e]
   rw[ed] at w2
   unfold forL at w2
   refine .inr ⟨K_,fun σ' H'=>∃F' ρ',StOk X.K F1 U F' H' σ' ρ'∧WPS X.K Xw F₀ H₀ (forL put τ (ds.drop (i+1)) ρ') D,fun σ' H' ⟨F',ρ',h2,h3⟩=>⟨ds.length - (i+1),by omega,rfl,dP,F',ρ',h2,h3⟩,fun x H3 y3=>?_⟩
   obtain⟨F3,CW,q3⟩:=Gg x H3 y3
   match OP:put d ρ2,w2 with
   |none,w2=>exact w2.elim
   |some ρ3,w2=>
    refine A2 F1 U F3 H3 σ2 ρ2 ρ3 d x _ (s2.ext' CW) q3 OP fun σ3 s3=>⟨F1,U,F3,ρ3,s3,?_⟩
    have w2:WPS X.K Xw F₀ H₀ (τ ρ3>>=fun o=>match o with | .nx ρ2=>forL put τ (ds.drop (i+1)) ρ2 | .rt v=>M.ret (.rt v)) D:=w2
    match τ ρ3,w2 with
    |none,w2=>exact w2
    |some (.ok (.nx ρ')),w2=>exact fun σ' F' H' s'=>⟨F',ρ',s',w2⟩
    |some (.ok (.rt d)),w2=>exact fun v F' H' e q=>w2 v F' H' (back _ _ e) q
    |some (.ex n),w2=>exact fun F' H' e=>w2 F' H' (back _ _ e)
  ·have hi:i=ds.length:=by omega
   subst hi
   rw[List.drop_length] at w2
   exact .inl ⟨(Nm F2 H2 ds.length s2.ext.ff s2.st.fh).2 (Nat.le_refl _),w2 σ2 F2 H2 (s2.unbase back hU)⟩
end
def gI(f:Int→Int→D):D→D→M D
 | .int i, .int j=>M.ret (f i j)
 |_,_=>M.stuck
def Ip(c:Int→Int→Bool)(f:Int→Int→D):D→D→M D
 | .int i, .int j=>if c i j then M.ret (f i j) else M.stuck
 |_,_=>M.stuck
theorem yg{K:W.Frag}{gv:Int→Int→V}{gd:Int→Int→D}(h:∀F i j,Den K F (gd i j) (gv i j)):vD K (zM gv) (gI gd):=fun Xw F H x y dx dy Q s hx hy w=>by
 unfold gI at w
 split at w
 ·rename_i i j
  exact⟨i,j,hx,hy,WP.now w s (h F i j)⟩
 ·exact w.elim
theorem wH{K:W.Frag}{gv:Int→Int→V}{gd:Int→Int→D}{c:Int→Int→Bool}{C:Int→Int→Prop}(h:∀F i j,Den K F (gd i j) (gv i j))(hc:∀i j,c i j=true→C i j):vD K (rI C gv) (Ip c gd):=fun Xw F H x y dx dy Q s hx hy w=>by
 unfold Ip at w
 split at w
 ·rename_i i j
  split at w
  ·rename_i J9
   exact⟨i,j,hx,hy,hc i j J9,WP.now w s (h F i j)⟩
  ·exact w.elim
 ·exact w.elim
def bX:=gI fun i j=> .int (i+j)
def d5:=gI fun i j=> .int (i - j)
def gT:=Ip (fun i j=>decide ((-(2 ^ 64)<i∧i<2 ^ 64)∨(-(2 ^ 64)<j∧j<2 ^ 64))) fun i j=> .int (i*j)
def kK:=Ip (fun _ j=>decide (0<j∧j<1073741824)) fun i j=> .int (i / j)
def jE:=Ip (fun _ j=>decide (0<j)) fun i j=> .int (i % j)
def Iq:=gI fun i j=> .bl (decide (i<j))
section
variable{X:Cx}{Xw:Nat→Hp→Prop}{a b:Expr}{δa δb:DE}{pos:Pos}
theorem bu(ha:PD X Xw a δa)(hb:PD X Xw b δb):PD X Xw (.BinOp a .Add b pos) (d2 bX δa δb):=qT GD (yg fun _ _ _=>rfl) ha hb
theorem c8(ha:PD X Xw a δa)(hb:PD X Xw b δb):PD X Xw (.BinOp a .Sub b pos) (d2 d5 δa δb):=qT GI (yg fun _ _ _=>rfl) ha hb
theorem jj(ha:PD X Xw a δa)(hb:PD X Xw b δb):PD X Xw (.BinOp a .Mult b pos) (d2 gT δa δb):=qT GG (wH (fun _ _ _=>rfl) fun i j h=>by unfold CMul;exact of_decide_eq_true h) ha hb
theorem kX(ha:PD X Xw a δa)(hb:PD X Xw b δb):PD X Xw (.BinOp a .FloorDiv b pos) (d2 kK δa δb):=qT DZ (wH (fun _ _ _=>rfl) fun i j h=>by unfold HR;exact of_decide_eq_true h) ha hb
theorem kZ(ha:PD X Xw a δa)(hb:PD X Xw b δb):PD X Xw (.BinOp a .Mod b pos) (d2 jE δa δb):=qT GF (wH (fun _ _ _=>rfl) fun i j h=>of_decide_eq_true h) ha hb
theorem Fg(ha:PD X Xw a δa)(hb:PD X Xw b δb):rp X Xw (.Compare a [.Lt] [b] pos) (df (d2 Iq δa δb)):=iE BC (yg fun _ _ _=>rfl) ha hb
def AL:D→D→M D
 | .lst ds, .int i=>match atI ds i with | some d=>M.ret d | none=>M.stuck
 |_,_=>M.stuck
def a_:D→D→M D
 | .tup ds, .int i=>match atI ds i with | some d=>M.ret d | none=>M.stuck
 |_,_=>M.stuck
def AM:D→D→M D
 | .scr ns, .int i=>match atI ns i with | some n=>M.ret (.int n) | none=>M.stuck
 |_,_=>M.stuck
def gE:D→D→M D
 | .str x, .int i=>match atI x.cps.toList i with | some c=>M.ret (.str ⟨#[c]⟩) | none=>M.stuck
 |_,_=>M.stuck
theorem DenL.atI{K:W.Frag}{F:Hp}{ds:List D}{vs:List V}(h:DenL K F ds vs){i:Int}{d:D}(e:L2.atI ds i=some d):∃v,L2.atI vs i=some v∧Den K F d v:=by
 unfold L2.atI at e⊢
 rw[←h.len]
 cases q:Gp ds.length i with
 |none=>rw[q] at e;cases e
 |some j=>
  rw[q] at e
  exact h.get e
theorem D1{K:W.Frag}:vD K (Hg K) AL:=fun Xw F H x y dx dy Q s hx hy w=>by
 unfold AL at w
 split at w
 ·rename_i ds i
  obtain⟨a,vs,h1,h2,h3,h4⟩:=hx
  split at w
  ·rename_i d e
   obtain⟨v,e1,q⟩:=h3.atI e
   exact⟨a,vs,i,v,h1,hy,SqL.of (s _ _ h2),e1,WP.now w s q⟩
  ·exact w.elim
 ·exact w.elim
theorem D4{K:W.Frag}:vD K (JG K) a_:=fun Xw F H x y dx dy Q s hx hy w=>by
 unfold a_ at w
 split at w
 ·rename_i ds i
  obtain⟨a,vs,h1,h2,h3,h4⟩:=hx
  split at w
  ·rename_i d e
   obtain⟨v,e1,q⟩:=h3.atI e
   exact⟨a,vs,i,v,h1,hy,SqT.of (s _ _ h2),e1,WP.now w s q⟩
  ·exact w.elim
 ·exact w.elim
theorem D2{K:W.Frag}:vD K (Hg K) AM:=fun Xw F H x y dx dy Q s hx hy w=>by
 unfold AM at w
 split at w
 ·rename_i ns i
  obtain⟨a,h1,h2,h3⟩:=hx
  split at w
  ·rename_i n e
   refine⟨a,_,i, .int n,h1,hy,Same.seq s h2,?_,WP.now w s rfl⟩
   unfold L2.atI at e⊢
   rw[List.length_map]
   cases q:Gp ns.length i with
   |none=>rw[q] at e;cases e
   |some j=>
    rw[q] at e
    have e:ns[j]? =some n:=e
    show (ns.map V.int)[j]? =some (.int n)
    rw[List.getElem?_map,e];rfl
  ·exact w.elim
 ·exact w.elim
theorem D3{K:W.Frag}:vD K JF gE:=fun Xw F H x y dx dy Q s hx hy w=>by
 unfold gE at w
 split at w
 ·rename_i z i
  obtain⟨h1,h2⟩:=hx
  split at w
  ·rename_i c e
   exact⟨z,i,c,h1,hy,by have:=dH;omega,e,WP.now w s ⟨rfl,by show 1≤lim;decide⟩⟩
  ·exact w.elim
 ·exact w.elim
theorem GO(ha:PD X Xw a δa)(hb:PD X Xw b δb)(hs:iw b:=by intro _ _;rfl):PD X Xw (.Subscript a b pos) (d2 AL δa δb):=yk xY D1 ha hb hs
theorem GP(ha:PD X Xw a δa)(hb:PD X Xw b δb)(hs:iw b:=by intro _ _;rfl):PD X Xw (.Subscript a b pos) (d2 AM δa δb):=yk xY D2 ha hb hs
theorem bf(ha:PD X Xw a δa)(hb:PD X Xw b δb)(hs:iw b:=by intro _ _;rfl):PD X Xw (.Subscript a b pos) (d2 a_ δa δb):=yk Gr D4 ha hb hs
theorem sD(ha:PD X Xw a δa)(hb:PD X Xw b δb)(hs:iw b:=by intro _ _;rfl):PD X Xw (.Subscript a b pos) (d2 gE δa δb):=yk Gq D3 ha hb hs
theorem ip(x y:Str):(x++y).length=x.length+y.length:=by
 show (x.cps++y.cps).size=_
 simp[Str.length]
end
end L3
namespace L3
open PySem PySem.Spec L2 SeqAt
open PyProof.Rows hiding St
def nv(f:D→D→Option Bool):List D→List D→Option Bool
 |[],[]=>some true
 |x::xs,y::ys=>match f x y,nv f xs ys with
  |some b,some r=>some (b&&r)
  |_,_=>none
 |[],_::_=>some false
 |_::_,[]=>some false
def vV:D→D→Option Bool
 | .non, .non=>some true
 | .bl a, .bl b=>some (a==b)
 | .bl a, .int j=>some ((if a then 1 else 0)==j)
 | .int i, .bl b=>some (i==(if b then 1 else 0))
 | .int i, .int j=>some (i==j)
 | .str x, .str y=>some (x==y)
 | .non, .bl _=>some false
 | .non, .int _=>some false
 | .non, .str _=>some false
 | .non, .lst _=>some false
 | .non, .tup _=>some false
 | .bl _, .non=>some false
 | .bl _, .str _=>some false
 | .bl _, .lst _=>some false
 | .bl _, .tup _=>some false
 | .int _, .non=>some false
 | .int _, .str _=>some false
 | .int _, .lst _=>some false
 | .int _, .tup _=>some false
 | .str _, .non=>some false
 | .str _, .bl _=>some false
 | .str _, .int _=>some false
 | .str _, .lst _=>some false
 | .str _, .tup _=>some false
 | .lst _, .non=>some false
 | .lst _, .bl _=>some false
 | .lst _, .int _=>some false
 | .lst _, .str _=>some false
 | .lst _, .tup _=>some false
 | .tup _, .non=>some false
 | .tup _, .bl _=>some false
 | .tup _, .int _=>some false
 | .tup _, .str _=>some false
 | .tup _, .lst _=>some false
 |_,_=>none
def jz:Nat→D→D→Option Bool
 |n+1, .tup xs, .tup ys=>nv (jz n) xs ys
 |n+1, .lst xs, .lst ys=>nv (jz n) xs ys
 |n+1, .scr xs, .lst ys=>nv (jz n) (xs.map D.int) ys
 |_,x,y=>vV x y
structure EqAll (A:Around) (s:Shared) (u v:Value) (b:Bool):Prop where
 rc:RcAt A s u v b
 ne:RcNeAt A s u v (!b)
 eq:EqAt A s u v b
section
variable{X:Cx}{pins:List (Addr×Obj)}{σ:St}{F H:Hp}{s:Shared}{A:Around}
theorem d6(I:Inv X pins σ H s)(hs:Same F H){ds:List D}{v:V}{u:Value}(h:Den X.K F (.tup ds) v)(r:RelV v u):∃a vs aF,u= .ref a∧v= .ref a∧F a=some (.tup vs)∧DenL X.K F ds vs∧Vals vs aF∧s.heap.IsTuple a aF.toArray:=by
 obtain⟨a,vs,rfl,h2,h3,h4⟩:=h
 obtain⟨aF,r1,p1,_⟩:=I.tuple (SqT.of (hs _ _ h2))
 exact⟨a,vs,aF,r,rfl,h2,h3,r1,p1⟩
theorem dI(I:Inv X pins σ H s)(hs:Same F H){ds:List D}{v:V}{u:Value}(h:Den X.K F (.lst ds) v)(r:RelV v u):∃a vs aF,u= .ref a∧v= .ref a∧F a=some (.lst vs)∧DenL X.K F ds vs∧Vals vs aF∧s.heap.IsList a aF.toArray:=by
 obtain⟨a,vs,rfl,h2,h3,h4⟩:=h
 obtain⟨aF,r1,p1,_⟩:=I.list (SqL.of (hs _ _ h2))
 exact⟨a,vs,aF,r,rfl,h2,h3,r1,p1.isList⟩
theorem Hm(I:Inv X pins σ H s)(hs:Same F H){ns:List Int}{v:V}{u:Value}(h:Den X.K F (.scr ns) v)(r:RelV v u):∃a aF,u= .ref a∧v= .ref a∧SqL X.K F a (ns.map V.int)∧Vals (ns.map V.int) aF∧s.heap.IsList a aF.toArray:=by
 obtain⟨a,rfl,h2,h3⟩:=h
 obtain⟨aF,r1,p1,_⟩:=I.list (Same.seq hs h2)
 exact⟨a,aF,r,rfl,h2,r1,p1.isList⟩
theorem t9(I:Inv X pins σ H s)(hs:Same F H)(hu:A.units<cLine){x y:D}{v w:V}{u t:Value}{b:Bool}(hx:Den X.K F x v)(hy:Den X.K F y w)(rx:RelV v u)(ry:RelV w t)(e:vV x y=some b):EqAll A s u t b:=by
 cases x with
 |non=>
  cases y with
  |non=>
   cases e
   cases (show _=_ from hx)
   cases rx
   cases (show _=_ from hy)
   cases ry
   exact⟨RcAt.none_none,RcNeAt.none_none,EqAt.same _⟩
  |bl d=>
   cases e
   cases (show _=_ from hx)
   cases rx
   cases (show _=_ from hy)
   cases ry
   exact⟨RcAt.none_bool _,RcNeAt.none_bool _,EqAt.none_bool _⟩
  |int d=>
   cases e
   cases (show _=_ from hx)
   cases rx
   cases (show _=_ from hy)
   obtain⟨t2,rfl⟩:=ry
   exact⟨RcAt.none_int _ _,RcNeAt.none_int _ _,EqAt.none_int _ _⟩
  |str d=>
   cases e
   cases (show _=_ from hx)
   cases rx
   cases (show _=_ from hy.1)
   obtain⟨t2,rfl⟩:=ry
   exact⟨RcAt.none_str _ _,RcNeAt.none_str _ _,EqAt.none_str _ _⟩
  |raw d=>cases e
  |dct _ _=>cases e
  |dci _ _=>cases e
  |exc d=>cases e
  |scr d=>cases e
  |tup d=>
   cases e
   cases (show _=_ from hx)
   cases rx
   obtain⟨a2,_,_,rfl,_,_,_,_,p2⟩:=d6 I hs hy ry
   exact⟨RcAt.none_tuple p2 hu,RcNeAt.none_tuple p2 hu,EqAt.none_tuple p2 hu⟩
  |lst d=>
   cases e
   cases (show _=_ from hx)
   cases rx
   obtain⟨a2,_,_,rfl,_,_,_,_,p2⟩:=dI I hs hy ry
   exact⟨RcAt.none_list p2 hu,RcNeAt.none_list p2 hu,EqAt.none_list p2 hu⟩
 |bl c=>
  cases y with
  |non=>
   cases e
   cases (show _=_ from hx)
   cases rx
   cases (show _=_ from hy)
   cases ry
   exact⟨RcAt.bool_none _,RcNeAt.bool_none _,EqAt.bool_none _⟩
  |bl d=>
   cases e
   cases (show _=_ from hx)
   cases rx
   cases (show _=_ from hy)
   cases ry
   exact⟨RcAt.bool_bool _ _,RcNeAt.bool_bool _ _,EqAt.bool_bool _ _⟩
  |int d=>
   cases e
   cases (show _=_ from hx)
   cases rx
   cases (show _=_ from hy)
   obtain⟨t2,rfl⟩:=ry
   exact⟨RcAt.bool_int _ _ _,RcNeAt.bool_int _ _ _,EqAt.bool_int _ _ _⟩
  |str d=>
   cases e
   cases (show _=_ from hx)
   cases rx
   cases (show _=_ from hy.1)
   obtain⟨t2,rfl⟩:=ry
   exact⟨RcAt.bool_str _ _ _,RcNeAt.bool_str _ _ _,EqAt.bool_str _ _ _⟩
  |raw d=>cases e
  |dct _ _=>cases e
  |dci _ _=>cases e
  |exc d=>cases e
  |scr d=>cases e
  |tup d=>
   cases e
   cases (show _=_ from hx)
   cases rx
   obtain⟨a2,_,_,rfl,_,_,_,_,p2⟩:=d6 I hs hy ry
   exact⟨RcAt.bool_tuple _ p2 hu,RcNeAt.bool_tuple _ p2 hu,EqAt.bool_tuple _ p2 hu⟩
  |lst d=>
   cases e
   cases (show _=_ from hx)
   cases rx
   obtain⟨a2,_,_,rfl,_,_,_,_,p2⟩:=dI I hs hy ry
   exact⟨RcAt.bool_list _ p2 hu,RcNeAt.bool_list _ p2 hu,EqAt.bool_list _ p2 hu⟩
 |int c=>
  cases y with
  |non=>
   cases e
   cases (show _=_ from hx)
   obtain⟨t1,rfl⟩:=rx
   cases (show _=_ from hy)
   cases ry
   exact⟨RcAt.int_none _ _,RcNeAt.int_none _ _,EqAt.int_none _ _⟩
  |bl d=>
   cases e
   cases (show _=_ from hx)
   obtain⟨t1,rfl⟩:=rx
   cases (show _=_ from hy)
   cases ry
   exact⟨RcAt.int_bool _ _ _,RcNeAt.int_bool _ _ _,EqAt.int_bool _ _ _⟩
  |int d=>
   cases e
   cases (show _=_ from hx)
   obtain⟨t1,rfl⟩:=rx
   cases (show _=_ from hy)
   obtain⟨t2,rfl⟩:=ry
   exact⟨RcAt.int_int _ _ _ _,RcNeAt.int_int _ _ _ _,EqAt.int_int _ _ _ _⟩
  |str d=>
   cases e
   cases (show _=_ from hx)
   obtain⟨t1,rfl⟩:=rx
   cases (show _=_ from hy.1)
   obtain⟨t2,rfl⟩:=ry
   exact⟨RcAt.int_str _ _ _ _,RcNeAt.int_str _ _ _ _,EqAt.int_str _ _ _ _⟩
  |raw d=>cases e
  |dct _ _=>cases e
  |dci _ _=>cases e
  |exc d=>cases e
  |scr d=>cases e
  |tup d=>
   cases e
   cases (show _=_ from hx)
   obtain⟨t1,rfl⟩:=rx
   obtain⟨a2,_,_,rfl,_,_,_,_,p2⟩:=d6 I hs hy ry
   exact⟨RcAt.int_tuple _ _ p2 hu,RcNeAt.int_tuple _ _ p2 hu,EqAt.int_tuple _ _ p2 hu⟩
  |lst d=>
   cases e
   cases (show _=_ from hx)
   obtain⟨t1,rfl⟩:=rx
   obtain⟨a2,_,_,rfl,_,_,_,_,p2⟩:=dI I hs hy ry
   exact⟨RcAt.int_list _ _ p2 hu,RcNeAt.int_list _ _ p2 hu,EqAt.int_list _ _ p2 hu⟩
 |str c=>
  cases y with
  |non=>
   cases e
   cases (show _=_ from hx.1)
   obtain⟨t1,rfl⟩:=rx
   cases (show _=_ from hy)
   cases ry
   exact⟨RcAt.str_none _ _,RcNeAt.str_none _ _,EqAt.str_none _ _⟩
  |bl d=>
   cases e
   cases (show _=_ from hx.1)
   obtain⟨t1,rfl⟩:=rx
   cases (show _=_ from hy)
   cases ry
   exact⟨RcAt.str_bool _ _ _,RcNeAt.str_bool _ _ _,EqAt.str_bool _ _ _⟩
  |int d=>
   cases e
   cases (show _=_ from hx.1)
   obtain⟨t1,rfl⟩:=rx
   cases (show _=_ from hy)
   obtain⟨t2,rfl⟩:=ry
   exact⟨RcAt.str_int _ _ _ _,RcNeAt.str_int _ _ _ _,EqAt.str_int _ _ _ _⟩
  |str d=>
   cases e
   cases (show _=_ from hx.1)
   obtain⟨t1,rfl⟩:=rx
   cases (show _=_ from hy.1)
   obtain⟨t2,rfl⟩:=ry
   exact⟨RcAt.str_str _ _ _ _,RcNeAt.str_str _ _ _ _,EqAt.str_str _ _ _ _⟩
  |raw d=>cases e
  |dct _ _=>cases e
  |dci _ _=>cases e
  |exc d=>cases e
  |scr d=>cases e
  |tup d=>
   cases e
   cases (show _=_ from hx.1)
   obtain⟨t1,rfl⟩:=rx
   obtain⟨a2,_,_,rfl,_,_,_,_,p2⟩:=d6 I hs hy ry
   exact⟨RcAt.str_tuple _ _ p2 hu,RcNeAt.str_tuple _ _ p2 hu,EqAt.str_tuple _ _ p2 hu⟩
  |lst d=>
   cases e
   cases (show _=_ from hx.1)
   obtain⟨t1,rfl⟩:=rx
   obtain⟨a2,_,_,rfl,_,_,_,_,p2⟩:=dI I hs hy ry
   exact⟨RcAt.str_list _ _ p2 hu,RcNeAt.str_list _ _ p2 hu,EqAt.str_list _ _ p2 hu⟩
 |raw _=>cases y<;>cases e
 |dct _ _=>cases y<;>cases e
 |dci _ _=>cases y<;>cases e
 |exc _=>cases y<;>cases e
 |scr c=>cases y<;>cases e
 |tup c=>
  cases y with
  |non=>
   cases e
   obtain⟨a1,_,_,rfl,_,_,_,_,p1⟩:=d6 I hs hx rx
   cases (show _=_ from hy)
   cases ry
   exact⟨RcAt.tuple_none p1 hu,RcNeAt.tuple_none p1 hu,EqAt.tuple_none p1 hu⟩
  |bl d=>
   cases e
   obtain⟨a1,_,_,rfl,_,_,_,_,p1⟩:=d6 I hs hx rx
   cases (show _=_ from hy)
   cases ry
   exact⟨RcAt.tuple_bool _ p1 hu,RcNeAt.tuple_bool _ p1 hu,EqAt.tuple_bool _ p1 hu⟩
  |int d=>
   cases e
   obtain⟨a1,_,_,rfl,_,_,_,_,p1⟩:=d6 I hs hx rx
   cases (show _=_ from hy)
   obtain⟨t2,rfl⟩:=ry
   exact⟨RcAt.tuple_int _ _ p1 hu,RcNeAt.tuple_int _ _ p1 hu,EqAt.tuple_int _ _ p1 hu⟩
  |str d=>
   cases e
   obtain⟨a1,_,_,rfl,_,_,_,_,p1⟩:=d6 I hs hx rx
   cases (show _=_ from hy.1)
   obtain⟨t2,rfl⟩:=ry
   exact⟨RcAt.tuple_str _ _ p1 hu,RcNeAt.tuple_str _ _ p1 hu,EqAt.tuple_str _ _ p1 hu⟩
  |raw d=>cases e
  |dct _ _=>cases e
  |dci _ _=>cases e
  |exc d=>cases e
  |scr d=>cases e
  |tup d=>cases e
  |lst d=>
   cases e
   obtain⟨a1,_,_,rfl,_,_,_,_,p1⟩:=d6 I hs hx rx
   obtain⟨a2,_,_,rfl,_,_,_,_,p2⟩:=dI I hs hy ry
   exact⟨RcAt.tuple_list p1 p2 hu,RcNeAt.tuple_list p1 p2 hu,EqAt.tuple_list p1 p2 hu⟩
 |lst c=>
  cases y with
  |non=>
   cases e
   obtain⟨a1,_,_,rfl,_,_,_,_,p1⟩:=dI I hs hx rx
   cases (show _=_ from hy)
   cases ry
   exact⟨RcAt.list_none p1 hu,RcNeAt.list_none p1 hu,EqAt.list_none p1 hu⟩
  |bl d=>
   cases e
   obtain⟨a1,_,_,rfl,_,_,_,_,p1⟩:=dI I hs hx rx
   cases (show _=_ from hy)
   cases ry
   exact⟨RcAt.list_bool _ p1 hu,RcNeAt.list_bool _ p1 hu,EqAt.list_bool _ p1 hu⟩
  |int d=>
   cases e
   obtain⟨a1,_,_,rfl,_,_,_,_,p1⟩:=dI I hs hx rx
   cases (show _=_ from hy)
   obtain⟨t2,rfl⟩:=ry
   exact⟨RcAt.list_int _ _ p1 hu,RcNeAt.list_int _ _ p1 hu,EqAt.list_int _ _ p1 hu⟩
  |str d=>
   cases e
   obtain⟨a1,_,_,rfl,_,_,_,_,p1⟩:=dI I hs hx rx
   cases (show _=_ from hy.1)
   obtain⟨t2,rfl⟩:=ry
   exact⟨RcAt.list_str _ _ p1 hu,RcNeAt.list_str _ _ p1 hu,EqAt.list_str _ _ p1 hu⟩
  |raw d=>cases e
  |dct _ _=>cases e
  |dci _ _=>cases e
  |exc d=>cases e
  |scr d=>cases e
  |tup d=>
   cases e
   obtain⟨a1,_,_,rfl,_,_,_,_,p1⟩:=dI I hs hx rx
   obtain⟨a2,_,_,rfl,_,_,_,_,p2⟩:=d6 I hs hy ry
   exact⟨RcAt.list_tuple p1 p2 hu,RcNeAt.list_tuple p1 p2 hu,EqAt.list_tuple p1 p2 hu⟩
  |lst d=>cases e
end
def ev(f:D→D→Option Bool)(xs ys:List D)(j:Nat):Bool:=match xs[j]?,ys[j]? with
 |some x,some y=>(f x y).getD false
 |_,_=>false
theorem t8{f:D→D→Option Bool}:∀{xs ys:List D}{b:Bool},nv f xs ys=some b→∀(j:Nat) (x y:D),xs[j]? =some x→ys[j]? =some y→∃c,f x y=some c
 |[],_,_,_,_,_,_,h,_=>by simp at h
 |_::_,[],_,_,_,_,_,_,h=>by simp at h
 |x::xs,y::ys,b,e,j,x',y',hx,hy=>by
  unfold nv at e
  split at e
  ·rename_i b1 r1 e1 e2
   cases j with
   |zero=>simp at hx hy;subst hx hy;exact⟨_,e1⟩
   |succ j=>exact t8 e2 j x' y' (by simpa using hx) (by simpa using hy)
  ·cases e
theorem rQ{f:D→D→Option Bool}:∀{xs ys:List D}{b:Bool},nv f xs ys=some b→b=((List.range (min xs.length ys.length)).all (ev f xs ys)&&xs.length==ys.length)
 |[],[],_,e=>by cases e;rfl
 |[],_::_,_,e=>by cases e;simp
 |_::_,[],_,e=>by cases e;simp
 |x::xs,y::ys,b,e=>by
  unfold nv at e
  split at e
  ·rename_i b1 r1 e1 e2
   cases e
   have h:=rQ e2
   rw[List.length_cons,List.length_cons,Nat.succ_min_succ,List.range_succ_eq_map,List.all_cons,List.all_map]
   have e0:ev f (x::xs) (y::ys) 0=b1:=by unfold ev;simp[e1]
   have e3:(ev f (x::xs) (y::ys)∘Nat.succ)=ev f xs ys:=by funext j;simp[ev,Function.comp]
   have e4:(xs.length+1==ys.length+1)=(xs.length==ys.length):=by simp
   rw[e0,e3,e4,h,Bool.and_assoc]
  ·cases e
section
variable{X:Cx}{pins:List (Addr×Obj)}{σ:St}{F H:Hp}{s:Shared}
theorem jB{f:D→D→Option Bool}(h:∀x y v b,Den X.K F x v→Den X.K F y v→f x y=some b→b=true):∀{xs ys:List D}{vs:List V}{b:Bool},DenL X.K F xs vs→DenL X.K F ys vs→nv f xs ys=some b→b=true
 |[],[],_,_,_,_,e=>by cases e;rfl
 |[],_::_,_,_,h1,h2,_=>by
  cases (show _=_ from h1)
  obtain⟨v,r,z,_⟩:=h2
  cases z
 |_::_,[],_,_,h1,h2,_=>by
  cases (show _=_ from h2)
  obtain⟨v,r,z,_⟩:=h1
  cases z
 |x::xs,y::ys,_,b,⟨v,r,e1,q1,q2⟩,⟨v',r',e2,q3,q4⟩,e=>by
  subst e1
  cases e2
  unfold nv at e
  split at e
  ·rename_i b1 r1 f1 f2
   cases e
   rw[h x y v b1 q1 q3 f1,jB h q2 q4 f2]
   rfl
  ·cases e
theorem qe{x y:D}{v:V}{b:Bool}(hx:Den X.K F x v)(hy:Den X.K F y v)(e:vV x y=some b):b=true:=by
 cases x<;>cases y<;>first
  |(cases e;done)
  |(cases e;cases (show _=_ from hx);cases (show _=_ from hy);first | rfl | simp)
  |(cases e;cases (show _=_ from hx.1);cases (show _=_ from hy.1);simp)
  |(cases e;cases (show _=_ from hx);cases (show _=_ from hy.1))
  |(cases e;cases (show _=_ from hx.1);cases (show _=_ from hy))
  |(cases e;obtain⟨_,_,z,_⟩:=hx;subst z;cases (show _=_ from hy);done)
  |(cases e;obtain⟨_,_,z,_⟩:=hx;subst z;cases (show _=_ from hy.1);done)
  |(cases e;obtain⟨_,z,_⟩:=hx;subst z;cases (show _=_ from hy);done)
  |(cases e;obtain⟨_,z,_⟩:=hx;subst z;cases (show _=_ from hy.1);done)
  |(cases e;obtain⟨_,_,z,_⟩:=hy;subst z;cases (show _=_ from hx);done)
  |(cases e;obtain⟨_,_,z,_⟩:=hy;subst z;cases (show _=_ from hx.1);done)
  |(cases e;obtain⟨_,z,_⟩:=hy;subst z;cases (show _=_ from hx);done)
  |(cases e;obtain⟨_,z,_⟩:=hy;subst z;cases (show _=_ from hx.1);done)
  |(cases e;obtain⟨_,_,z,h2,_⟩:=hx;obtain⟨_,_,z',MH,_⟩:=hy;subst z;cases z';rw[h2] at MH;cases MH;done)
  |(cases e;cases (show _=_ from hx);cases (show _=_ from hy);done)
  |(cases e;cases (show _=_ from hx.1);cases (show _=_ from hy.1);done)
theorem jA(I:Inv X pins σ H s)(hs:Same F H):∀(n:Nat) (x y:D) (v:V) (b:Bool),Den X.K F x v→Den X.K F y v→jz n x y=some b→b=true
 |0,x,y,v,b,hx,hy,e=>qe hx hy (by unfold jz at e;exact e)
 |n+1,x,y,v,b,hx,hy,e=>by
  unfold jz at e
  split at e
  ·rename_i xs ys _
   obtain⟨a,vs,rfl,h2,h3,_⟩:=hx
   obtain⟨a',vs',z,k2,k3,_⟩:=hy
   cases z
   rw[h2] at k2
   cases k2
   exact jB (jA I hs _) h3 k3 (by simpa using e)
  ·rename_i xs ys _
   obtain⟨a,vs,rfl,h2,h3,_⟩:=hx
   obtain⟨a',vs',z,k2,k3,_⟩:=hy
   cases z
   rw[h2] at k2
   cases k2
   exact jB (jA I hs _) h3 k3 (by simpa using e)
  ·rename_i xs ys _
   obtain⟨a,rfl,h2,_⟩:=hx
   obtain⟨a',vs',z,k2,k3,_⟩:=hy
   cases z
   have hv:=I.list_inj (Same.seq hs h2) (SqL.of (hs _ _ k2))
   rw[←hv] at k3
   exact jB (jA I hs _) (DenL.ints xs) k3 (by simpa using e)
  ·exact qe hx hy e
theorem Vals.at{vs:List V}{aF:List Value}(r:Vals vs aF){j:Nat}(h:j<aF.toArray.size):∃v,vs[j]? =some v∧RelV v aF.toArray[j]:=by
 have hl:=r.length
 have hj:j<vs.length:=by rw[List.size_toArray] at h;omega
 obtain⟨u,e1,e2⟩:=r.get (List.getElem?_eq_getElem hj)
 refine⟨vs[j],List.getElem?_eq_getElem hj,?_⟩
 have:aF.toArray[j]=u:=by
  have:=(List.getElem?_eq_some_iff.mp e1).2
  simpa using this
 rw[this]
 exact e2
theorem mL{f:D→D→Option Bool}{A:Around}{xs ys:List D}{vs ws:List V}{aF fM:List Value}{b:Bool}(h1:DenL X.K F xs vs)(h2:DenL X.K F ys ws)(r1:Vals vs aF)(r2:Vals ws fM)(e:nv f xs ys=some b)
 (ih:∀x y v w u t c,Den X.K F x v→Den X.K F y w→RelV v u→RelV w t→f x y=some c→EqAt A s u t c):
 ∀j (k1:j<aF.toArray.size) (k2:j<fM.toArray.size),EqAt A s aF.toArray[j] fM.toArray[j] (ev f xs ys j):=fun j k1 k2=>by
 obtain⟨v,e1,q1⟩:=Vals.at r1 k1
 obtain⟨w,e2,q2⟩:=Vals.at r2 k2
 obtain⟨x,e3,q3⟩:=h1.at e1
 obtain⟨y,e4,q4⟩:=h2.at e2
 obtain⟨c,hc⟩:=t8 e j x y e3 e4
 have:ev f xs ys j=c:=by unfold ev;rw[e3,e4];simp[hc]
 rw[this]
 exact ih x y v w _ _ c q3 q4 q1 q2 hc
theorem qx{f:D→D→Option Bool}{A:Around}(hu:A.units<cLine){xs ys:List D}{vs ws:List V}{aF fM:List Value}{b:Bool}{a a':Addr}(h1:DenL X.K F xs vs)(h2:DenL X.K F ys ws)(r1:Vals vs aF)(r2:Vals ws fM)
 (p1:s.heap.IsList a aF.toArray)(p2:s.heap.IsList a' fM.toArray)(e:nv f xs ys=some b)(hr:a=a'→b=true)
 (ih:∀x y v w u t c,Den X.K F x v→Den X.K F y w→RelV v u→RelV w t→f x y=some c→EqAt A.in1 s u t c):EqAll A s (.ref a) (.ref a') b:=by
 have l1:=h1.len
 have l2:=h2.len
 have l3:=r1.length
 have l4:=r2.length
 have hv:=rQ e
 have core:RcAt A s (.ref a) (.ref a') b∧RcNeAt A s (.ref a) (.ref a') (!b):=by
  by_cases hl:xs.length=ys.length
  ·have hsz:aF.toArray.size=fM.toArray.size:=by rw[List.size_toArray,List.size_toArray];omega
   have hb:b=(List.range aF.toArray.size).all (ev f xs ys):=by
    rw[hv,hl,Nat.min_self,beq_self_eq_true,Bool.and_true]
    congr 2
    rw[List.size_toArray];omega
   rw[hb]
   exact⟨RcAt.lists p1 p2 hsz hu (mL h1 h2 r1 r2 e ih),RcNeAt.lists p1 p2 hsz hu (mL h1 h2 r1 r2 e ih)⟩
  ·have hb:b=false:=by rw[hv,show (xs.length==ys.length)=false from by simpa using hl,Bool.and_false]
   have hsz:(aF.toArray.size !=fM.toArray.size)=true:=by
    rw[List.size_toArray,List.size_toArray]
    simp
    omega
   rw[hb]
   exact⟨RcAt.lists_lengths p1 p2 hsz hu,RcNeAt.lists_lengths p1 p2 hsz hu⟩
 refine⟨core.1,core.2,?_⟩
 by_cases hq:a=a'
 ·rw[hr hq]
  subst hq
  exact EqAt.same _
 ·exact EqAt.of_refs hq core.1
theorem xc{f:D→D→Option Bool}{A:Around}(hu:A.units<cLine){xs ys:List D}{vs ws:List V}{aF fM:List Value}{b:Bool}{a a':Addr}(h1:DenL X.K F xs vs)(h2:DenL X.K F ys ws)(r1:Vals vs aF)(r2:Vals ws fM)
 (p1:s.heap.IsTuple a aF.toArray)(p2:s.heap.IsTuple a' fM.toArray)(e:nv f xs ys=some b)(hr:a=a'→b=true)
 (ih:∀x y v w u t c,Den X.K F x v→Den X.K F y w→RelV v u→RelV w t→f x y=some c→EqAt A.in1 s u t c):EqAll A s (.ref a) (.ref a') b:=by
 have l1:=h1.len
 have l2:=h2.len
 have l3:=r1.length
 have l4:=r2.length
 have hb:b=((List.range (min aF.toArray.size fM.toArray.size)).all (ev f xs ys)&&aF.toArray.size==fM.toArray.size):=by
  rw[rQ e,List.size_toArray,List.size_toArray,←l3,←l4,←l1,←l2]
 have core:RcAt A s (.ref a) (.ref a') b∧RcNeAt A s (.ref a) (.ref a') (!b):=by
  rw[hb]
  exact⟨RcAt.tuples p1 p2 hu (mL h1 h2 r1 r2 e ih),RcNeAt.tuples p1 p2 hu (mL h1 h2 r1 r2 e ih)⟩
 refine⟨core.1,core.2,?_⟩
 by_cases hq:a=a'
 ·rw[hr hq]
  subst hq
  exact EqAt.same _
 ·exact EqAt.of_refs hq core.1
theorem rR(I:Inv X pins σ H s)(hs:Same F H):∀(n:Nat) (A:Around) (x y:D) (v w:V) (u t:Value) (b:Bool),A.units+n<cLine→Den X.K F x v→Den X.K F y w→RelV v u→RelV w t→jz n x y=some b→EqAll A s u t b
 |0,A,x,y,v,w,u,t,b,hu,hx,hy,rx,ry,e=>t9 I hs (by omega) hx hy rx ry (by unfold jz at e;exact e)
 |n+1,A,x,y,v,w,u,t,b,hu,hx,hy,rx,ry,e=>by
  have Kh:A.units<cLine:=by omega
  have O3:A.in1.units+n<cLine:=by show A.units+1+n<cLine;omega
  have hrefl:=jA (F:=F) I hs (n+1) x y
  have ih:∀x y v w u t c,Den X.K F x v→Den X.K F y w→RelV v u→RelV w t→jz n x y=some c→EqAt A.in1 s u t c:=fun x y v w u t c q1 q2 q3 q4 q5=>(rR I hs n A.in1 x y v w u t c O3 q1 q2 q3 q4 q5).eq
  have e0:=e
  unfold jz at e
  split at e
  ·rename_i xs ys heq
   cases heq
   obtain⟨a,vs,aF,rfl,Ik,h2,h3,r1,p1⟩:=d6 I hs hx rx
   obtain⟨a',vs',its',rfl,Il,k2,k3,JA,Jr⟩:=d6 I hs hy ry
   exact xc Kh h3 k3 r1 JA p1 Jr e (fun z=>by subst z;exact hrefl v b hx (by rw[Ik,←Il];exact hy) e0) ih
  ·rename_i xs ys heq
   cases heq
   obtain⟨a,vs,aF,rfl,Ik,h2,h3,r1,p1⟩:=dI I hs hx rx
   obtain⟨a',vs',its',rfl,Il,k2,k3,JA,Jr⟩:=dI I hs hy ry
   exact qx Kh h3 k3 r1 JA p1 Jr e (fun z=>by subst z;exact hrefl v b hx (by rw[Ik,←Il];exact hy) e0) ih
  ·rename_i xs ys heq
   cases heq
   obtain⟨a,aF,rfl,Ik,h2,r1,p1⟩:=Hm I hs hx rx
   obtain⟨a',vs',its',rfl,Il,k2,k3,JA,Jr⟩:=dI I hs hy ry
   exact qx Kh (DenL.ints _) k3 r1 JA p1 Jr e (fun z=>by subst z;exact hrefl v b hx (by rw[Ik,←Il];exact hy) e0) ih
  ·exact t9 I hs Kh hx hy rx ry e
end
def mz(x y:D):M D:=match jz 6 x y with | some b=>M.ret (.bl b) | none=>M.stuck
def mB(x y:D):M D:=match jz 6 x y with | some b=>M.ret (.bl (!b)) | none=>M.stuck
def JC(K:W.Frag):R2:=fun x y H Q=>∃F dx dy b,Same F H∧Den K F dx x∧Den K F dy y∧jz 6 dx dy=some b∧Q (.bl b) H
def JH(K:W.Frag):R2:=fun x y H Q=>∃F dx dy b,Same F H∧Den K F dx x∧Den K F dy y∧jz 6 dx dy=some b∧Q (.bl (!b)) H
section
variable{X:Cx}{Xw:Nat→Hp→Prop}{a b:Expr}{δa δb:DE}{pos:Pos}
theorem BB(hu:X.A.units+64<cLine):OpR X (compareOp .Eq) (JC X.K):=by
 intro pins s σ H x y v u Q I rx ry h
 obtain⟨F,dx,dy,b,hs,hx,hy,e,q⟩:=h
 exact(rR I hs 6 X.A dx dy x y v u b (by omega) hx hy rx ry e).rc _ _ _ _ ⟨.bl b,H,I,rfl,q⟩
theorem GH(hu:X.A.units+64<cLine):OpR X (compareOp .NotEq) (JH X.K):=by
 intro pins s σ H x y v u Q I rx ry h
 obtain⟨F,dx,dy,b,hs,hx,hy,e,q⟩:=h
 exact(rR I hs 6 X.A dx dy x y v u b (by omega) hx hy rx ry e).ne _ _ _ _ ⟨.bl (!b),H,I,rfl,q⟩
theorem BD{K:W.Frag}:vD K (JC K) mz:=fun Xw F H x y dx dy Q s hx hy w=>by
 unfold mz at w
 split at w
 ·rename_i b e
  exact⟨F,dx,dy,b,s,hx,hy,e,WP.now w s rfl⟩
 ·exact w.elim
theorem GJ{K:W.Frag}:vD K (JH K) mB:=fun Xw F H x y dx dy Q s hx hy w=>by
 unfold mB at w
 split at w
 ·rename_i b e
  exact⟨F,dx,dy,b,s,hx,hy,e,WP.now w s rfl⟩
 ·exact w.elim
theorem B3(hu:X.A.units+64<cLine)(ha:PD X Xw a δa)(hb:PD X Xw b δb):rp X Xw (.Compare a [.Eq] [b] pos) (df (d2 mz δa δb)):=iE (BB hu) BD ha hb
theorem gD(hu:X.A.units+64<cLine)(ha:PD X Xw a δa)(hb:PD X Xw b δb):rp X Xw (.Compare a [.NotEq] [b] pos) (df (d2 mB δa δb)):=iE (GH hu) GJ ha hb
theorem l9(hu:X.A.units+64<cLine)(ha:PD X Xw a δa)(hb:PD X Xw b δb):PD X Xw (.Compare a [.Eq] [b] pos) (d2 mz δa δb):=BJ (BB hu) BD ha hb
end
def PDW(X:Cx)(Xw:Nat→Hp→Prop)(e:Expr)(δ:DT):Prop:=PW X e (Mg X.K Xw δ)
theorem PW.weak{X:Cx}{e:Expr}{t t':TT}(h:PW X e t)(k:∀σ H Q,t' σ H Q→t σ H Q):PW X e t':=fun wh pins s σ H Q I w=>h wh pins s σ H Q I (k σ H Q w)
section
variable{X:Cx}{Xw:Nat→Hp→Prop}{a b c:Expr}{rest:List Expr}{δa δb δc:DE}{τa τb:DT}{pos:Pos}
theorem eo(ha:rp X Xw a τa):PDW X Xw (.BoolOp .Or [a] pos) τa:=He ha
theorem fg(ha:rp X Xw a τa)(hb:PDW X Xw (.BoolOp .Or (b::rest) pos) τb):PDW X Xw (.BoolOp .Or (a::b::rest) pos) (kE τa τb):=PW.weak (Jz ha hb) fun σ H Q ⟨F,ρ,s,w⟩=>by
 refine⟨F,ρ,s,WPB.mono (WPB.bindB w) fun v H1 ⟨F1,e1,w1⟩=>?_⟩
 cases v with
 |false=>exact⟨F1,ρ,s.ext e1,w1⟩
 |true=>exact w1 _ _ (Ext.refl e1.fh)
theorem PDW.t(h:PDW X Xw a τa):rp X Xw a τa:=PW.pt h
theorem cq(ha:rp X Xw a τa):rp X Xw (.UnaryOp .Not a pos) (b6 τa):=PT.weak (Hb ha) fun σ H Q ⟨F,ρ,s,w⟩=>
 ⟨F,ρ,s,WPB.mono (WPB.bindB w) fun v H1 ⟨F1,e1,w1⟩=>w1 _ _ (Ext.refl e1.fh)⟩
def vp:D→M Bool
 | .non=>M.ret false
 | .bl b=>M.ret b
 | .lst ds=>M.ret (!ds.isEmpty)
 | .tup ds=>M.ret (!ds.isEmpty)
 |_=>M.stuck
def bH(δ:DE):DT:=fun ρ=>δ ρ>>=vp
theorem DenL.isEmpty{K:W.Frag}{F:Hp}{ds:List D}{vs:List V}(h:DenL K F ds vs):ds.isEmpty=vs.isEmpty:=by
 have:=h.len
 cases ds<;>cases vs<;>simp_all
theorem bZ(ha:PD X Xw a δa)(he:∀whole,isTrue a X.env whole=(do let v←whole;standAt a.pos;holding [v] (truthy v)):=by intro _;rfl):rp X Xw a (bH δa):=PT.weak (B4 ha he) fun σ H Q ⟨F,ρ,s,w⟩=>by
 refine⟨F,ρ,s,WP.mono (WPB.bind (K:=X.K) w) fun v H1 ⟨F1,d,e1,q1,w1⟩=>?_⟩
 cases d with
 |non=>cases (show _=_ from q1);exact⟨false,rfl,w1 _ _ (Ext.refl e1.fh)⟩
 |bl b=>cases (show _=_ from q1);exact⟨b,rfl,w1 _ _ (Ext.refl e1.fh)⟩
 |lst ds=>
  obtain⟨a,vs,rfl,h2,h3,_⟩:=q1
  exact⟨!ds.isEmpty, .inl ⟨vs,SqL.of (e1.fh _ _ h2),by rw[h3.isEmpty]⟩,w1 _ _ (Ext.refl e1.fh)⟩
 |tup ds=>
  obtain⟨a,vs,rfl,h2,h3,_⟩:=q1
  exact⟨!ds.isEmpty, .inr (.inl ⟨vs,SqT.of (e1.fh _ _ h2),by rw[h3.isEmpty]⟩),w1 _ _ (Ext.refl e1.fh)⟩
 |_=>exact w1.elim
theorem sF{op}(h:PD X Xw a δa):PD X Xw (.BoolOp op [a] pos) δa:=G2 h
theorem oC(ha:PD X Xw a δa)(hb:PD X Xw (.BoolOp .And (b::rest) pos) δb):PD X Xw (.BoolOp .And (a::b::rest) pos) (dE δa δb):=PE.weak (GX ha hb) fun σ H Q ⟨F,ρ,s,w⟩=>by
 refine⟨F,ρ,s,WP.mono (WP.bind w) fun v H1 ⟨F1,d,e1,q1,w1⟩=>?_⟩
 cases d with
 |bl k=>
  refine⟨k,q1,?_⟩
  cases k with
  |true=>exact⟨F1,ρ,s.ext e1,w1⟩
  |false=>exact WP.now w1 e1.fh rfl
 |_=>exact w1.elim
theorem GS(ha:PD X Xw a δa):PD X Xw (.UnaryOp .Not a pos) (EO δa):=PE.weak (G1 ha) fun σ H Q ⟨F,ρ,s,w⟩=>by
 refine⟨F,ρ,s,WP.mono (WP.bind w) fun v H1 ⟨F1,d,e1,q1,w1⟩=>?_⟩
 cases d with
 |bl k=>exact⟨k,q1,WP.now w1 e1.fh rfl⟩
 |_=>exact w1.elim
def vQ(p q:Int→Int→Bool)(a b c:DE):DE:=fun ρ=>a ρ>>=fun x=>b ρ>>=fun y=>match x,y with
 | .int i, .int j=>if p i j then c ρ>>=fun z=>gI (fun i j=> .bl (q i j)) y z else M.ret (.bl false)
 |_,_=>M.stuck
theorem rk{p q:Int→Int→Bool}:∀σ H Q,tD X.K Xw (vQ p q δa δb δc) σ H Q→xb (zM fun i j=> .bl (p i j)) (zM fun i j=> .bl (q i j)) (tD X.K Xw δa) (tD X.K Xw δb) (tD X.K Xw δc) σ H Q:=fun σ H Q ⟨F,ρ,s,w⟩=>by
 refine⟨F,ρ,s,WP.mono (WP.bind w) fun v H1 ⟨F1,d,e1,q1,w1⟩=>?_⟩
 refine⟨F1,ρ,s.ext e1,WP.mono (WP.bind w1) fun u H2 ⟨F2,d',e2,q2,w2⟩=>?_⟩
 cases d with
 |int i=>
  cases d' with
  |int j=>
   refine⟨i,j,q1,q2,p i j,rfl,?_⟩
   have w2:WP X.K Xw F2 H2 (if p i j then δc ρ>>=fun z=>gI (fun i j=> .bl (q i j)) (.int j) z else M.ret (.bl false)) Q:=w2
   cases hp:p i j with
   |false=>
    rw[hp] at w2
    exact WP.now w2 e2.fh rfl
   |true=>
    rw[hp] at w2
    refine⟨F2,ρ,(s.ext e1).ext e2,WP.mono (WP.bind w2) fun u' H3 ⟨F3,NI,e3,q3,w3⟩=>?_⟩
    exact yg (K:=X.K) (gv:=fun i j=> .bl (q i j)) (gd:=fun i j=> .bl (q i j)) (fun _ _ _=>rfl) Xw F3 H3 u u' (.int j) NI Q e3.fh q2 q3 w3
  |_=>exact w2.elim
 |_=>exact w2.elim
theorem BI{op wG:CmpOp}{p q:Int→Int→Bool}(ho:OpR X (compareOp op) (zM fun i j=> .bl (p i j)))(qj:OpR X (compareOp wG) (zM fun i j=> .bl (q i j)))(ha:PD X Xw a δa)(hb:PD X Xw b δb)(hc:PD X Xw c δc)
 (hm:lastMarks [op,wG] [b,c]=false:=by with_unfolding_all rfl):PD X Xw (.Compare a [op,wG] [b,c] pos) (vQ p q δa δb δc):=PE.weak (BP ho qj ha hb hc hm) rk
theorem B1{op wG:CmpOp}{p q:Int→Int→Bool}(ho:OpR X (compareOp op) (zM fun i j=> .bl (p i j)))(qj:OpR X (compareOp wG) (zM fun i j=> .bl (q i j)))(ha:PD X Xw a δa)(hb:PD X Xw b δb)(hc:PD X Xw c δc)
 (hm:lastMarks [op,wG] [b,c]=false:=by with_unfolding_all rfl):rp X Xw (.Compare a [op,wG] [b,c] pos) (df (vQ p q δa δb δc)):=PT.weak (B2 ho qj ha hb hc hm) fun σ H Q ⟨F,ρ,s,w⟩=>by
 refine rk σ H _ ⟨F,ρ,s,WP.mono (WPB.bind w) fun v H1 ⟨F1,d,e1,q1,w1⟩=>?_⟩
 cases d with
 |bl k=>exact⟨k,q1,w1 _ _ (Ext.refl e1.fh)⟩
 |_=>exact w1.elim
def tM(K:W.Frag)(r:List V→Hp→VK→Prop)(g:List D→M D):Prop:=∀(Xw:Nat→Hp→Prop) (F H:Hp) (vs:List V) (ds:List D) (Q:VK),Same F H→DenL K F ds vs→WP K Xw F H (g ds) Q→r vs H Q
variable{x:Str}{p:Pos}{e:Expr}{es:List Expr}{δs:DA}{id T:String}{r:List V→Hp→VK→Prop}{g:List D→M D}
theorem CF(h:tM X.K r g):∀σ H Q,tD X.K Xw (dA g δs) σ H Q→Me r (Nz X.K Xw δs) σ H Q:=fun σ H Q ⟨F,ρ,s,w⟩=>
 ⟨F,ρ,s,WPL.mono (WP.bindL w) fun vs H1 ⟨F1,ds,e1,q1,w1⟩=>h Xw F1 H1 vs ds Q e1.fh q1 w1⟩
theorem dq(hc:CallR X (.builtin id) r)(hd:tM X.K r g)(hg:Gl X x)(hm:X.mg x=none)(hv:bootBuiltins x=some (.builtin id))(ha:mV X Xw (e::es) δs)(hn:x≠"__name__":=by decide)(rT:(x==("__debug__":Str))=false:=by decide)
 (he:starEach (e::es) X.env=(false,eval e X.env)::starEach es X.env:=by rfl)(mD:(backTo pos (starEach es X.env)).any (·.1)=false:=by rfl):PD X Xw (.Call (.Name x p) (e::es) [] pos) (dA g δs):=
 PE.weak (BO hc hg hm hv ha hn rT he mD) (CF hd)
theorem zE(hc:CallR X (.type T) r)(hd:tM X.K r g)(hg:Gl X x)(hm:X.mg x=none)(hv:bootBuiltins x=some (.type T))(ha:mV X Xw (e::es) δs)(hn:x≠"__name__":=by decide)(rT:(x==("__debug__":Str))=false:=by decide)
 (he:starEach (e::es) X.env=(false,eval e X.env)::starEach es X.env:=by rfl)(mD:(backTo pos (starEach es X.env)).any (·.1)=false:=by rfl):PD X Xw (.Call (.Name x p) (e::es) [] pos) (dA g δs):=
 PE.weak (zH hc hg hm hv ha hn rT he mD) (CF hd)
def bt:List D→M D
 |[.lst ds]=>M.ret (.int ds.length)
 |[.tup ds]=>M.ret (.int ds.length)
 |[.str x]=>M.ret (.int x.length)
 |[.scr ns]=>M.ret (.int ns.length)
 |_=>M.stuck
theorem zg:tM X.K (fun xs H Q=>(∃p ys,xs=[.ref p]∧(SqL X.K H p ys∨SqT X.K H p ys)∧Q (.int ys.length) H)∨∃z,xs=[.str z]∧z.length≤sizeLine∧Q (.int z.length) H) bt:=fun Xw F H vs ds Q s h w=>by
 unfold bt at w
 split at w
 ·obtain⟨v,rfl,h1⟩:=h.one
  obtain⟨a,vs,rfl,h2,h3,_⟩:=h1
  exact .inl ⟨a,vs,rfl, .inl (SqL.of (s _ _ h2)),by rw[←h3.len];exact WP.now w s rfl⟩
 ·obtain⟨v,rfl,h1⟩:=h.one
  obtain⟨a,vs,rfl,h2,h3,_⟩:=h1
  exact .inl ⟨a,vs,rfl, .inr (SqT.of (s _ _ h2)),by rw[←h3.len];exact WP.now w s rfl⟩
 ·obtain⟨v,rfl,h1⟩:=h.one
  cases (show _=_ from h1.1)
  exact .inr ⟨_,rfl,by have:=h1.2;have:=dH;omega,WP.now w s rfl⟩
 ·obtain⟨v,rfl,h1⟩:=h.one
  obtain⟨a,rfl,h2,_⟩:=h1
  exact .inl ⟨a,_,rfl, .inl (Same.seq s h2),by rw[List.length_map];exact WP.now w s rfl⟩
 ·exact w.elim
theorem bE(hg:Gl X "len")(hm:X.mg "len"=none)(ha:mV X Xw [e] δs)(he:starEach [e] X.env=[(false,eval e X.env)]:=by rfl):PD X Xw (.Call (.Name "len" p) [e] [] pos) (dA bt δs):=
 dq (rK.or rL) zg hg hm PySem.boot_len ha (by decide) (by decide) he rfl
def z8:List D→M D
 |[.int i]=>M.ret (.int (if i<0 then -i else i))
 |_=>M.stuck
def wj:List D→M D
 |[.int i, .int j]=>M.ret (.int (if j>i then j else i))
 |_=>M.stuck
def zk:List D→M D
 |[.int i, .int j]=>M.ret (.int (if j<i then j else i))
 |_=>M.stuck
theorem BH(hg:Gl X "abs")(hm:X.mg "abs"=none)(ha:mV X Xw [e] δs)(hb:bootBuiltins "abs"=some (.builtin "abs"))(he:starEach [e] X.env=[(false,eval e X.env)]:=by rfl):PD X Xw (.Call (.Name "abs" p) [e] [] pos) (dA z8 δs):=
 dq Ai (fun Xw F H vs ds Q s h w=>by
  unfold z8 at w
  split at w
  ·obtain⟨v,rfl,h1⟩:=h.one
   cases (show _=_ from h1)
   exact⟨_,rfl,WP.now w s rfl⟩
  ·exact w.elim) hg hm hb ha (by decide) (by decide) he rfl
end
theorem WP.xw{K:W.Frag}{Xw Xw':Nat→Hp→Prop}{F H:Hp}{m:M D}{Q:VK}(h:WP K Xw F H m Q)(k:∀n H,Xw n H→Xw' n H):WP K Xw' F H m Q:=by
 match m,h with
 |none,h=>exact h
 |some (.ok d),h=>exact h
 |some (.ex n),h=>exact fun F' H' e=>k n H' (h F' H' e)
theorem dQ{X:Cx}{Xw:Nat→Hp→Prop}{st:Stmt}{τ:DS}(h:fE X.nox (fun _ _=>False) st τ):fE X Xw st (fun ρ=>noex (τ ρ)):=fun F₀ H₀ pins s σ H D I ⟨F,ρ,S,w⟩=>by
 have w:WPS X.K Xw F₀ H₀ (noex (τ ρ)) D:=w
 have w':tS X.K (fun _ _=>False) F₀ H₀ τ D σ H:=by
  refine⟨F,ρ,S,?_⟩
  rcases(τ ρ).cs with e | ⟨n,e⟩ | ⟨o,e⟩
  ·rw[e] at w;exact w.elim
  ·rw[e] at w;exact w.elim
  ·rw[e] at w⊢
   cases o with
   |nx ρ'=>exact w
   |rt d=>exact w
 refine wpAny_mono (h F₀ H₀ pins s σ H D (I.wish _) w') (fun f s' q=>SP.unwish q) fun _ _ z=>z.elim
def EX(cv:Nat→Value)(Xw:Nat→Hp→Prop):XK:=fun c _ H=>∃n,c=cv n∧Xw n H
def HN(K:W.Frag)(cv:Nat→Value)(k:Nat)(f:List D→M D):Sp:=fun vs H Q E=>∃F ds,Same F H∧DenL K F ds vs∧vs.length=k∧WP K (fun n H'=>E (cv n) none H') F H (f ds) Q
def bU(n:Nat)(τ:DS):List D→M D:=fun ds=>τ (ds.map (fun d=>some (Sl.fz d))++List.replicate (n - ds.length) none)>>=fun o=>match o with
 | .nx _=>M.ret .non
 | .rt d=>M.ret d
section
variable{P:Program}{w:World}{K:W.Frag}{mg:Str→Option Value}{base:Heap}{CX:vH}{cv:Nat→Value}
theorem Im{x qual:Str}{st:Stmt}{f:Addr}{fd:FuncData}{N ps:List Str}{k:Nat}{τ:DS}(Fn:Fun K x qual st f fd)(S:FnScope N ps (af st))
 (uq:∀(bg:Value) (A:Around) (outer:List Env) (s:Shared) (H:Hp) (E:XK),Room k (A.deeper (envOfC qual (af st) s.heap.objs.size f bg))→
  PSDs (cT CX P w K mg base N qual (af st) f bg A outer s H E) (fun n H'=>E (cv n) none H') (aP st) τ):FnOk P w K mg base CX (k+1) f fd ps (HN K cv ps.length (bU N.length τ)):=by
 obtain⟨oc,od,kV,doc,pm,an,bg,ct,Fd,rfl,lk,xN⟩:=Fn.ex
 refine Io lk xN S (fun vs H Q E ⟨_,_,_,_,hl,_⟩=>hl) fun A outer s H vs Q E hr E8=>?_
 obtain⟨F,ds,fh,hd,hl,hw⟩:=E8
 refine⟨_,uq bg A outer s H E hr F H,F,ds.map (fun d=>some (Sl.fz d))++List.replicate (N.length - ds.length) none,⟨Ext.refl fh,⟨fh,fun i sl e=>?_⟩,?_,fun i c a e=>?_,fun i j c c' a e=>?_⟩,?_⟩
 ·have hlen:=hd.len
  by_cases hi:i<ds.length
  ·rw[List.getElem?_append_left (by simpa using hi),List.getElem?_map] at e
   cases q:ds[i]? with
   |none=>rw[q] at e;cases e
   |some d=>
    rw[q] at e
    cases e
    obtain⟨v,e1,e2⟩:=hd.get q
    refine⟨v,?_,e2⟩
    unfold L2.start
    rw[List.getElem?_append_left (by simp;omega),List.getElem?_map,e1]
    rfl
  ·rw[List.getElem?_append_right (by simpa using hi),List.getElem?_replicate] at e
   split at e<;>cases e
 ·have hlen:=hd.len
  unfold L2.start
  simp[hlen]
 ·exfalso
  by_cases hi:i<ds.length
  ·rw[List.getElem?_append_left (by simpa using hi),List.getElem?_map] at e
   cases q:ds[i]? with
   |none=>rw[q] at e;cases e
   |some d=>rw[q] at e;cases e
  ·rw[List.getElem?_append_right (by simpa using hi),List.getElem?_replicate] at e
   split at e<;>cases e
 ·exfalso
  by_cases hi:i<ds.length
  ·rw[List.getElem?_append_left (by simpa using hi),List.getElem?_map] at e
   cases q:ds[i]? with
   |none=>rw[q] at e;cases e
   |some d=>rw[q] at e;cases e
  ·rw[List.getElem?_append_right (by simpa using hi),List.getElem?_replicate] at e
   split at e<;>cases e
 ·have hw:WP K (fun n H'=>E (cv n) none H') F H (τ (ds.map (fun d=>some (Sl.fz d))++List.replicate (N.length - ds.length) none)>>=fun o=>match o with | .nx _=>M.ret .non | .rt d=>M.ret d) Q:=hw
  rcases(τ (ds.map (fun d=>some (Sl.fz d))++List.replicate (N.length - ds.length) none)).cs with e | ⟨n,e⟩ | ⟨o,e⟩
  ·rw[e] at hw;exact hw.elim
  ·rw[e] at hw⊢;exact hw
  ·rw[e] at hw⊢
   cases o with
   |nx ρ'=>exact fun σ' F' H' s'=>hw .non H' F' s'.ext rfl
   |rt d=>exact fun v F' H' e' q=>hw v H' F' e' q
end
section
variable{X:Cx}{Xw:Nat→Hp→Prop}{CX:vH}{cv:Nat→Value}{k m:Nat}{f:Addr}{fd:FuncData}{ps:List Str}{g:List D→M D}{x:Str}{p pos:Pos}{e:Expr}{es:List Expr}{δs:DA}
theorem D6(F:FnOk X.prog X.w X.K X.mg X.base CX k f fd ps (HN X.K cv m g))(hr:Room k X.A)(hg:Gl X x)(hm:X.mg x=some (.ref f))(hk:PySem.W.keepIn X.K (.ref f)=true)(hb:Binds X.K fd ps [])(hx:Passes CX X (EX cv Xw))
 (ha:mV X Xw (e::es) δs)(hl:(e::es).length=m)(rT:(x==("__debug__":Str))=false:=by decide)(he:starEach (e::es) X.env=(false,eval e X.env)::starEach es X.env:=by rfl)(mD:(backTo pos (starEach es X.env)).any (·.1)=false:=by rfl):
 PD X Xw (.Call (.Name x p) (e::es) [] pos) (fun ρ=>δs ρ>>=fun ds=>if ds.length=m then g ds else M.stuck):=PE.weak (Ec F hr hg hm hk hb .nil hx ha rT he mD) fun σ H Q ⟨F,ρ,s,w⟩=>by
 refine⟨F,ρ,s,WPL.mono (WP.bindL w) fun vs H1 ⟨F1,ds,e1,q1,w1⟩=>?_⟩
 split at w1
 ·rename_i xP
  refine⟨F1,ds,e1.fh,by simpa using q1,by rw[List.append_nil,←q1.len];exact xP,WP.xw w1 fun n H h=>⟨n,rfl,h⟩⟩
 ·exact w1.elim
theorem yi{x:Str}{d:D}{v:V}{u:Value}(hg:Gl X x)(hm:X.mg x=some u)(r:RelV v u)(hd:∀F,Den X.K F d v)(rT:(x==("__debug__":Str))=false:=by decide):PD X Xw (.Name x pos) (dC d):=
 fT (Ee hg hm r rT) hd
end
theorem obj_some{P:Program}{w:World}{H:Hp}{h:Heap}{a:Addr}{o:HO}(x:ObjOk P w H h a o):∃ob,h.get? a=some ob:=by
 cases o with
 |lst xs=>obtain⟨_,_,_,_,e⟩:=x;exact⟨_,e⟩
 |tup xs=>obtain⟨_,_,_,ob,e,_⟩:=x;exact⟨_,e⟩
 |dK aw=>obtain⟨_,_,_,_,o,_,_,e,_⟩:=x;exact⟨_,e⟩
 |dT aw=>obtain⟨_,_,_,_,o,_,_,e,_⟩:=x;exact⟨_,e⟩
 |set S n=>obtain⟨o,_,_,_,e,_⟩:=x;exact⟨_,e⟩
 |ins C dx fs=>obtain⟨_,_,_,e,_⟩:=x;exact⟨_,e⟩
 |own y=>obtain⟨_,e⟩:=x;exact⟨_,e⟩
 |xd fs=>obtain⟨_,⟨_,_,_,e,_⟩,_⟩:=x;exact⟨_,e⟩
 |rng lo hi=>obtain⟨_,_,_,e⟩:=x;exact⟨_,e⟩
 |frz ob u=>obtain⟨e,_⟩:=x;exact⟨_,e⟩
 |tbl ps=>exact⟨_,(show h.get? a=some _ from x)⟩
 |met f y=>exact⟨_,(show h.get? a=some _ from x)⟩
 |ext φ=>obtain⟨_,⟨_,e⟩,_⟩:=x;exact⟨_,e⟩
def iM(P:Program)(w:World)(cv:Nat→Value):vH:=fun outer H s E e s'=>∃(ea:Addr) (n:Nat) (a0:Value) (B:Heap) (H':Hp),e= .ref ea∧s'.os=s.os∧AllBare s'.gens∧HOk P w H' s'.heap∧Un (mN outer) [] H H' s.heap s'.heap∧
 Heap.FlyingW B outer ea (cv n) a0 s'.heap∧(∀b o,s'.heap.get? b=some o→(H' b≠none∨(s.heap.get? b).isSome=true)→b∉mN outer→B.get? b=some o)∧E (cv n) none H'
section
variable{P:Program}{w:World}{fs:List Addr}{H₀ H:Hp}{h₀ h h':Heap}
theorem EF(u:Un fs [] H₀ H h₀ h)(ka:∀b o,h.get? b=some o→b∉fs→(H b≠none∨(h₀.get? b).isSome=true)→h'.get? b=some o)(kb:∀b o,h.get? b=some o→b∈fs→∃sl,h'.get? b=some {o with slots:=sl}):Un fs [] H₀ H h₀ h' where
 keep:=fun b o e n hb hx=>ka b o (u.keep b o e n hb hx) hb (.inr (by rw[e];rfl))
 slot:=fun b o e n hb hx=>by
  obtain⟨sl,q⟩:=u.slot b o e n hb hx
  obtain⟨Hn,q'⟩:=kb b _ q hb
  exact⟨Hn,q'⟩
 free:=u.free
 there:=fun b o e hx=>by
  obtain⟨o',q⟩:=u.there b o e hx
  by_cases hb:b∈fs
  ·obtain⟨sl,q'⟩:=kb b _ q hb
   exact⟨_,q'⟩
  ·exact⟨o',ka b o' q hb (.inr (by rw[e];rfl))⟩
 tups:=u.tups
 frzs:=u.frzs
 tbls:=u.tbls
theorem A1(x:HOk P w H h)(hf:∀b∈fs,H b=none)(ka:∀b o,h.get? b=some o→b∉fs→H b≠none→h'.get? b=some o):HOk P w H h':=fun a o e=>by
 refine(x a o e).stay (fun b u hb q=>ka b u q (fun z=>?_) ?_) (fun _ q=>q) fun _ _ q=>q
 ·have hz:=hf b z
  rcases hb with rfl | hb
  ·rw[hz] at e;cases e
  ·rw[hz] at hb;cases hb
 ·rcases hb with rfl | hb
  ·rw[e];exact fun z=>nomatch z
  ·rw[hb];exact fun z=>nomatch z
end
section
variable{P:Program}{w:World}{K:W.Frag}{mg:Str→Option Value}{base:Heap}{N:List Str}{qual:Str}{scope:Scope}{f:Addr}{cd:Value}{A:Around}{outer:List Env}{s₀:Shared}{H₀:Hp}{E:XK}{cv:Nat→Value}
theorem aO:Passes (iM P w cv) (cT (iM P w cv) P w K mg base N qual scope f cd A outer s₀ H₀ E) (EX cv fun n H'=>E (cv n) none H'):=by
 intro pins σ H s e s' I ⟨ea,n,a0,B,H',he,uu,hg,hok,un,ME,hB,m,hm,hE⟩
 subst he
 have F0:((cT (iM P w cv) P w K mg base N qual scope f cd A outer s₀ H₀ E)).env.locals=s₀.heap.objs.size:=rfl
 have Dy:mN ((cT (iM P w cv) P w K mg base N qual scope f cd A outer s₀ H₀ E)).stack=s₀.heap.objs.size::mN outer:=rfl
 show wpAny (model P w) (A.deeper (envOfC qual scope s₀.heap.objs.size f cd)) (leaving (envOfC qual scope s₀.heap.objs.size f cd) (.ref ea)) _ _ s'
 refine wpAny_leaves_onW (base:=B) (outer:=outer) (L:=s₀.heap.objs.size) I.ok.frames rfl ME fun h' FF ups=>?_
 have E3:∀b∈mN ((cT (iM P w cv) P w K mg base N qual scope f cd A outer s₀ H₀ E)).stack,H' b=none:=fun b hb=>by
  obtain⟨o,ho⟩:∃o,s.heap.get? b=some o:=by
   obtain⟨_,o,ho,_⟩:=I.stack.mem hb
   exact⟨o,ho⟩
  exact un.free b o ho (I.stkFree b hb) (by simp)
 have E_:∀b o,s'.heap.get? b=some o→b∉mN ((cT (iM P w cv) P w K mg base N qual scope f cd A outer s₀ H₀ E)).stack→(H' b≠none∨(s.heap.get? b).isSome=true)→h'.get? b=some o:=fun b o e hb hc=>FF.1 b o (hB b o e hc hb)
 have unA:Un (mN outer) [] H₀ H' s₀.heap s'.heap:=by
  have u1:Un (mN outer) [] H₀ H s₀.heap s.heap:=I.base
  refine⟨fun b o e nn hb hx=>?_,fun b o e nn hb hx=>?_,fun b o e nn hx=>?_,fun b o e hx=>?_,fun b xs q=>un.tups b xs (u1.tups b xs q),fun b o u q=>un.frzs b o u (u1.frzs b o u q),fun b ps q=>?_⟩
  ·refine un.keep b o (u1.keep b o e nn hb hx) (u1.free b o e nn hx) (fun z=>?_) (by simp)
   rw[Dy] at z
   rcases List.mem_cons.mp z with z | z
   ·exact absurd (Heap.lt_size e) (by rw[z];exact Nat.lt_irrefl _)
   ·exact hb z
  ·obtain⟨sl,q⟩:=u1.slot b o e nn hb hx
   obtain⟨Hn,q'⟩:=un.slot b _ q (u1.free b o e nn hx) (by rw[Dy];exact List.mem_cons_of_mem _ hb) (by simp)
   exact⟨Hn,q'⟩
  ·obtain⟨o',q⟩:=u1.there b o e hx
   exact un.free b o' q (u1.free b o e nn hx) (by simp)
  ·obtain⟨o',q⟩:=u1.there b o e hx
   exact un.there b o' q (by simp)
  ·obtain⟨m1,q1⟩:=u1.tbls b ps q
   obtain⟨m2,q2⟩:=un.tbls b _ q1
   exact⟨m1++m2,by rw[q2,Array.append_assoc]⟩
 have Nh:∀b,(s₀.heap.get? b).isSome=true→(s.heap.get? b).isSome=true:=fun b hb=>by
  obtain⟨o,ho⟩:=Option.isSome_iff_exists.mp hb
  obtain⟨o',q⟩:=(show Un (mN outer) [] H₀ H s₀.heap s.heap from I.base).there b o ho (by simp)
  rw[q];rfl
 have LX:∀b,(s₀.heap.get? b).isSome=true→b≠s₀.heap.objs.size:=fun b hb z=>by
  obtain⟨o,ho⟩:=Option.isSome_iff_exists.mp hb
  exact absurd (Heap.lt_size ho) (by rw[z];exact Nat.lt_irrefl _)
 have Jm:∀b,b∉mN outer→(H' b≠none∨(s₀.heap.get? b).isSome=true)→b∉mN ((cT (iM P w cv) P w K mg base N qual scope f cd A outer s₀ H₀ E)).stack:=fun b hb hc z=>by
  rcases hc with hc | hc
  ·exact hc (E3 b z)
  ·rw[Dy] at z
   rcases List.mem_cons.mp z with z | z
   ·exact LX b hc z
   ·exact hb z
 refine⟨ea,n,a0,B,H',rfl,uu.trans I.os,hg,A1 hok E3 (fun b o e hb hc=>E_ b o e hb (.inl hc)),EF unA (fun b o e hb hc=>E_ b o e (Jm b hb hc) (hc.imp id (Nh b))) (fun b o e hb=>?_),FF,fun b o e hc hb=>?_,?_⟩
 ·obtain⟨_,o',qj,hd⟩:=ME.2.2.1.mem (show b∈mN ((cT (iM P w cv) P w K mg base N qual scope f cd A outer s₀ H₀ E)).stack by rw[Dy];exact List.mem_cons_of_mem _ hb)
  rw[e] at qj
  cases qj
  exact ups b o e hd
 ·have K0:=Jm b hb hc
  obtain⟨o',qj⟩:∃o',s'.heap.get? b=some o':=by
   rcases hc with hc | hc
   ·cases q:H' b with
    |none=>exact absurd q hc
    |some u=>
     exact obj_some (hok b u q)
   ·obtain⟨o1,h1⟩:=Option.isSome_iff_exists.mp hc
    exact unA.there b o1 h1 (by simp)
  have:=hB b o' qj (hc.imp id (Nh b)) K0
  rw[FF.1 b o' this] at e
  cases e
  exact this
 ·rw[hm];exact hE
end
section
variable{X:Cx}{Xw:Nat→Hp→Prop}{cv:Nat→Value}{n:Nat}{C:Addr}{x:Str}{np a6 pos:Pos}{e:Expr}{es:List Expr}{δs:DA}{bm:List Value}{B newId LP:String}
end
def Fb:D→Option String
 | .non=>some "NoneType"
 | .bl _=>some "bool"
 | .int _=>some "int"
 | .str _=>some "str"
 | .tup _=>some "tuple"
 | .lst _=>some "list"
 |_=>none
def Gn(k T:String):Option Bool:=if T="str"∨T="int"∨T="bool"∨T="tuple"∨T="list" then some (decide (k=T)||(decide (k="bool")&&decide (T="int"))) else none
def gF:List D→M D
 |[d, .raw (.ty T)]=>match Fb d with
  |some k=>match Gn k T with
   |some b=>M.ret (.bl b)
   |none=>M.stuck
  |none=>M.stuck
 |_=>M.stuck
theorem Gz{K:W.Frag}{k T:String}{b:Bool}(hk:k="NoneType"∨k="bool"∨k="int"∨k="str"∨k="tuple"∨k="list")(h:Gn k T=some b):PySem.W.kitOne K (.type k) (.type T)=some b:=by
 unfold Gn at h
 split at h
 ·rename_i hT
  cases h
  rcases hk with rfl | rfl | rfl | rfl | rfl | rfl<;>rcases hT with rfl | rfl | rfl | rfl | rfl<;>with_unfolding_all rfl
 ·cases h
section
variable{X:Cx}{Xw:Nat→Hp→Prop}{a b e e2:Expr}{es:List Expr}{δa δb:DE}{δs:DA}{pos p:Pos}
def JE(K:W.Frag):List V→Hp→VK→Prop:=fun xs H Q=>∃x T t b,xs=[x, .ty T]∧TyOf K H x t∧PySem.W.kitOne K t (.type T)=some b∧Q (.bl b) H
theorem Aj:CallR X (.builtin "isinstance") (JE X.K):=by
 intro pins s σ H xs us Q I r h
 obtain⟨x,T,t,b,rfl,ty,e,q⟩:=h
 obtain⟨u,w',rfl,r1,r2⟩:=vals2 r
 cases (show w'=_ from r2)
 exact y_ I r1 ty e fun tk=>⟨.bl b,H,I.tok tk,rfl,q⟩
theorem CL{K:W.Frag}{F H:Hp}{d:D}{v:V}{k:String}(s:Same F H)(h:Den K F d v)(hk:Fb d=some k):TyOf K H v (.type k)∧(k="NoneType"∨k="bool"∨k="int"∨k="str"∨k="tuple"∨k="list"):=by
 cases d with
 |non=>cases hk;cases (show _=_ from h);exact⟨.non, .inl rfl⟩
 |bl x=>cases hk;cases (show _=_ from h);exact⟨.bl x, .inr (.inl rfl)⟩
 |int x=>cases hk;cases (show _=_ from h);exact⟨.int x, .inr (.inr (.inl rfl))⟩
 |str x=>cases hk;cases (show _=_ from h.1);exact⟨.str x, .inr (.inr (.inr (.inl rfl)))⟩
 |tup x=>cases hk;obtain⟨a,vs,rfl,h2,_⟩:=h;exact⟨.tup (s _ _ h2), .inr (.inr (.inr (.inr (.inl rfl))))⟩
 |lst x=>cases hk;obtain⟨a,vs,rfl,h2,_⟩:=h;exact⟨.lst (s _ _ h2), .inr (.inr (.inr (.inr (.inr rfl))))⟩
 |_=>cases hk
theorem y9{K:W.Frag}:tM K (JE K) gF:=fun Xw F H vs ds Q s h w=>by
 unfold gF at w
 split at w
 ·rename_i d T
  obtain⟨v,v',rfl,h1,h2⟩:=h.two
  cases (show _=_ from h2)
  split at w
  ·rename_i k hk
   split at w
   ·rename_i b hb
    obtain⟨ty,pq⟩:=CL s h1 hk
    exact⟨v,T, .type k,b,rfl,ty,Gz pq hb,WP.now w s rfl⟩
   ·exact w.elim
  ·exact w.elim
 ·exact w.elim
theorem kY(hg:Gl X "isinstance")(hm:X.mg "isinstance"=none)(hb:bootBuiltins "isinstance"=some (.builtin "isinstance"))(ha:mV X Xw [e,e2] δs)(he:starEach [e,e2] X.env=(false,eval e X.env)::starEach [e2] X.env:=by rfl)
 (mD:(backTo pos (starEach [e2] X.env)).any (·.1)=false:=by rfl):PD X Xw (.Call (.Name "isinstance" p) [e,e2] [] pos) (dA gF δs):=
 dq Aj y9 hg hm hb ha (by decide) (by decide) he mD
theorem qU{x:Str}{T:String}(hg:Gl X x)(hm:X.mg x=none)(hv:bootBuiltins x=some (.type T))(hn:x≠"__name__":=by decide)(hd:(x==("__debug__":Str))=false:=by decide):PD X Xw (.Name x pos) (dC (.raw (.ty T))):=
 fT (v:= .ty T) (Eb hg hm hv (show RelV (.ty T) (.type T) from rfl) hn hd) fun _=>rfl
def bools:List D→Option (List Bool)
 |[]=>some []
 | .bl b::r=>(bools r).map (b:: ·)
 |_=>none
def allM:List D→M D
 |[.lst ds]=>match bools ds with
  |some bs=>M.ret (.bl (bs.all id))
  |none=>M.stuck
 |_=>M.stuck
theorem p8{K:W.Frag}{F:Hp}:∀{ds:List D}{vs:List V}{bs:List Bool},bools ds=some bs→DenL K F ds vs→vs=bs.map V.bl
 |[],_,_,e,h=>by cases e;exact h
 | .bl b::r,_,_,e,⟨v,r',h1,h2,h3⟩=>by
   unfold bools at e
   cases q:bools r with
   |none=>rw[q] at e;cases e
   |some bs=>rw[q] at e;cases e;subst h1;rw[p8 q h3,show v= .bl b from h2];rfl
 | .non::_,_,_,e,_=>by cases e
 | .int _::_,_,_,e,_=>by cases e
 | .str _::_,_,_,e,_=>by cases e
 | .raw _::_,_,_,e,_=>by cases e
 | .exc _::_,_,_,e,_=>by cases e
 | .scr _::_,_,_,e,_=>by cases e
 | .tup _::_,_,_,e,_=>by cases e
 | .lst _::_,_,_,e,_=>by cases e
theorem yx:∀{bs:List Bool}{aF:List Value},Vals (bs.map V.bl) aF→aF=bs.map Value.bool
 |[],_,r=>by cases r;rfl
 |b::bs,_,r=>by
  cases r with
  |cons r1 r2=>cases (show _=_ from r1);rw[yx r2];rfl
def L7:List V→Hp→VK→Prop:=fun xs H Q=>∃(a:Addr) (bs:List Bool),xs=[.ref a]∧H a=some (.lst (bs.map V.bl))∧Q (.bl (bs.all id)) H
theorem all_range{bs:List Bool}:(List.range bs.length).all (fun i=>bs.getD i false)=bs.all id:=by
 induction bs with
 |nil=>rfl
 |cons b bs ih=>
  rw[List.length_cons,List.range_succ_eq_map,List.all_cons,List.all_map,List.all_cons]
  congr 1
theorem yJ(hc:X.calm=true):CallR X (.builtin "all") L7:=by
 intro pins s σ H xs us Q I r h
 obtain⟨a,bs,rfl,hH,q⟩:=h
 obtain⟨u,rfl,r1⟩:=vals1 r
 cases (show u=_ from r1)
 obtain⟨aF,r2,pl,hz⟩:=I.list (SqL.of (K:=X.K) hH)
 obtain rfl:=yx r2
 have fL:a≠s.heap.objs.size:=Nat.ne_of_lt (I.hok.lt hH)
 refine call_all_walk (wpAny_pyIter_list pl.isList ?_)
 refine⟨s.heap.objs.size,_,_,_,_,_,fun i=>bs.getD i false,rfl,Walks.list (A:=X.A.in1) (show X.A.in1.handled=none from I.ok.hd hc) s.heap.objs.size a fL (bs.map Value.bool).toArray,⟨⟨_,Heap.get?_push_size _ rfl,rfl,rfl⟩,Heap.IsList.at pl.isList fun o e=>Heap.get?_push_of_some _ e⟩,?_,fun h' tk k=>?_⟩
 ·intro i v s' Q' E' hv hq
  have hv:(bs.map Value.bool).toArray[i]? =some v:=hv
  rw[List.getElem?_toArray,List.getElem?_map] at hv
  cases q':bs[i]? with
  |none=>rw[q'] at hv;cases hv
  |some b=>
   rw[q'] at hv
   cases hv
   have:bs.getD i false=b:=by rw[List.getD_eq_getElem?_getD,q'];rfl
   have hq:Q' (bs.getD i false) s':=hq
   rw[this] at hq
   exact wpAny_truthy_bool hq
 ·have e:(List.range (bs.map Value.bool).toArray.size).all (fun i=>bs.getD i false)=bs.all id:=by
   rw[List.size_toArray,List.length_map];exact all_range
  rw[e]
  refine⟨.bl (bs.all id),H,I.kept (h':=h') (t':=tk) fun b o e'=>k b o (fun z=>?_) (Heap.get?_push_of_some _ e'),rfl,q⟩
  have z:b=s.heap.objs.size:=by simpa using z
  exact absurd (Heap.lt_size e') (by rw[z];exact Nat.lt_irrefl _)
theorem wK(hc:X.calm=true)(hg:Gl X "all")(hm:X.mg "all"=none)(hb:bootBuiltins "all"=some (.builtin "all"))(ha:mV X Xw [e] δs)(he:starEach [e] X.env=[(false,eval e X.env)]:=by rfl):PD X Xw (.Call (.Name "all" p) [e] [] pos) (dA allM δs):=
 dq (yJ hc) (fun Xw F H vs ds Q s h w=>by
  unfold allM at w
  split at w
  ·rename_i ds
   obtain⟨v,rfl,h1⟩:=h.one
   obtain⟨a,ws,rfl,h2,h3,_⟩:=h1
   split at w
   ·rename_i bs hb
    exact⟨a,bs,rfl,by rw[←p8 hb h3];exact s _ _ h2,WP.now w s rfl⟩
   ·exact w.elim
  ·exact w.elim) hg hm hb ha (by decide) (by decide) he rfl
end
section
variable{X:Cx}{Xw:Nat→Hp→Prop}{a b e e2:Expr}{es:List Expr}{δ δa δb:DE}{δs:DA}{pos p apos a6:Pos}
theorem EC{i:Nat}:∀F₀ H₀ D σ H,tS X.K Xw F₀ H₀ (mI i δ) D σ H→CH (Md X.K "list" yn (o4 i) (CG (tD X.K Xw δ) Hy)) D σ H:=fun F₀ H₀ D σ H ⟨F,ρ,s,w⟩=>by
 unfold mI at w
 cases ho:zC ρ i with
 |none=>rw[ho] at w;exact w.elim
 |some ds=>
  rw[ho] at w
  have hi:=qL ho
  obtain⟨v,hv,a,o,rfl,hH,hF,vs,rfl,hd,hl⟩:=s.st.den i _ hi
  have w:WPS X.K Xw F₀ H₀ (δ ρ>>=fun d=>if ds.length<lim then M.ret (.nx (ρ.set i (some (.ow (.lst (ds++[d])))))) else M.stuck) D:=w
  refine⟨.ref a,hv, .inl ⟨rfl,vs,SqL.of hH⟩,F,ρ,s.st,?_⟩
  rcases(δ ρ).cs with q | ⟨n,q⟩ | ⟨d,q⟩
  ·rw[q] at w;exact w.elim
  ·rw[q] at w⊢;exact fun F' H' e'=>w F' H' (s.ext.trans e')
  ·rw[q] at w⊢
   intro u H1 F1 e1 hq
   have w:WPS X.K Xw F₀ H₀ (if ds.length<lim then M.ret (.nx (ρ.set i (some (.ow (.lst (ds++[d])))))) else M.stuck) D:=w
   split at w
   ·rename_i dP
    have hlen:=hd.len
    refine⟨a,vs,u,rfl,rfl,e1.hh _ _ hH,by have:=dH;omega,?_⟩
    exact w σ F1 _ ((s.ext' e1).chg (c₀:= .lst (ds++[d])) hi hv ⟨_,rfl,DenL.append (DenL.mono e1.ff hd) (.cons hq .nil),by rw[List.length_append];exact dP⟩)
   ·exact w.elim
theorem ED{i:Nat}:∀F₀ H₀ D σ H,tS X.K Xw F₀ H₀ (Cg i δ) D σ H→CH (Md X.K "list" yo (o4 i) (CG (tD X.K Xw δ) Hy)) D σ H:=fun F₀ H₀ D σ H ⟨F,ρ,s,w⟩=>by
 unfold Cg at w
 cases ho:zC ρ i with
 |none=>rw[ho] at w;exact w.elim
 |some ds=>
  rw[ho] at w
  have hi:=qL ho
  obtain⟨v,hv,a,o,rfl,hH,hF,vs,rfl,hd,hl⟩:=s.st.den i _ hi
  have w:WPS X.K Xw F₀ H₀ (δ ρ>>=fun d=>lstM d>>=fun es=>if ds.length+es.length≤lim then M.ret (.nx (ρ.set i (some (.ow (.lst (ds++es)))))) else M.stuck) D:=w
  refine⟨.ref a,hv, .inl ⟨rfl,vs,SqL.of hH⟩,F,ρ,s.st,?_⟩
  rcases(δ ρ).cs with q | ⟨n,q⟩ | ⟨d,q⟩
  ·rw[q] at w;exact w.elim
  ·rw[q] at w⊢;exact fun F' H' e'=>w F' H' (s.ext.trans e')
  ·rw[q] at w⊢
   intro u H1 F1 e1 hq
   cases d with
   |lst es=>
    obtain⟨b,ws,rfl,k2,k3,k4⟩:=hq
    have w:WPS X.K Xw F₀ H₀ (if ds.length+es.length≤lim then M.ret (.nx (ρ.set i (some (.ow (.lst (ds++es)))))) else M.stuck) D:=w
    split at w
    ·rename_i dP
     have hlen:=hd.len
     have M3:=k3.len
     refine⟨a,b,vs,ws,rfl,rfl,e1.hh _ _ hH,e1.fh _ _ k2,by have:=dH;omega,?_⟩
     exact w σ F1 _ ((s.ext' e1).chg (c₀:= .lst (ds++es)) hi hv ⟨_,rfl,DenL.append (DenL.mono e1.ff hd) k3,by rw[List.length_append];exact dP⟩)
    ·exact w.elim
   |_=>exact w.elim
theorem mU{i:Nat}{x:Str}(hv:PE X (.Name x p) (o4 i))(he:PD X Xw e δ)(hs:swapsWith (.Call (.Attribute (.Name x p) "append" apos) [e] [] a6) none pos.line X.env=pure false:=by rfl)
 (jH:attributeBase (.Name x p) "append" X.env (eval (.Name x p) X.env)=eval (.Name x p) X.env:=by rfl)
 (rV:((backTo a6 (starEach [e] X.env)).all (fun x=>!x.1)&&(backToKw a6 (keywordEach [] X.env)).all (fun x=>x.1.isSome)&&decide ([e].length+([]:List Keyword).length+(if ([]:List Keyword).isEmpty then 0 else 1)<30))=true:=by rfl)
 (jI:(apos.endLine==a6.line)=true:=by rfl)(v7:starEach [e] X.env=[(false,eval e X.env)]:=by rfl):fE X Xw (.Expr (.Call (.Attribute (.Name x p) "append" apos) [e] [] a6) pos) (mI i δ):=fun F₀ H₀=>
 PS.weak (mT (BN PySem.F.plainAttrs_list PySem.F.slot_list_append PySem.F.type_list_append qA hv (sA he sC v7) jH rV jI v7 rfl) hs) fun D σ H w=>EC F₀ H₀ D σ H w
theorem Ej{i:Nat}{x:Str}(hv:PE X (.Name x p) (o4 i))(he:PD X Xw e δ)(hs:swapsWith (.Call (.Attribute (.Name x p) "extend" apos) [e] [] a6) none pos.line X.env=pure false:=by rfl)
 (jH:attributeBase (.Name x p) "extend" X.env (eval (.Name x p) X.env)=eval (.Name x p) X.env:=by rfl)
 (rV:((backTo a6 (starEach [e] X.env)).all (fun x=>!x.1)&&(backToKw a6 (keywordEach [] X.env)).all (fun x=>x.1.isSome)&&decide ([e].length+([]:List Keyword).length+(if ([]:List Keyword).isEmpty then 0 else 1)<30))=true:=by rfl)
 (jI:(apos.endLine==a6.line)=true:=by rfl)(v7:starEach [e] X.env=[(false,eval e X.env)]:=by rfl):fE X Xw (.Expr (.Call (.Attribute (.Name x p) "extend" apos) [e] [] a6) pos) (Cg i δ):=fun F₀ H₀=>
 PS.weak (mT (BN PySem.F.plainAttrs_list PySem.F.slot_list_extend PySem.F.type_list_extend zl hv (sA he sC v7) jH rV jI v7 rfl) hs) fun D σ H w=>ED F₀ H₀ D σ H w
theorem BA:OpR X (binaryOp .Add) (fun x y H Q=>∃a b ys,x= .ref a∧y= .ref b∧SqT X.K H a []∧SqT X.K H b ys∧Q (.ref b) H):=by
 intro pins s σ H x y v u Q I rx ry h
 obtain⟨a,b,ys,rfl,rfl,ha,hb,q⟩:=h
 cases rx
 cases ry
 obtain⟨aF,r1,p1,_⟩:=I.tuple ha
 obtain⟨fM,r2,p2,_⟩:=I.tuple hb
 cases r1
 obtain⟨⟨cls,dd,data,sl⟩,ho,hc,n,hd⟩:=id p1
 obtain⟨⟨KH,De,data2,Ko⟩,Gb,FT,n2,hd2⟩:=id p2
 simp only at hc hd FT hd2
 subst hc hd FT hd2
 exact concat_meets ⟨_,ho,rfl⟩ ⟨_,Gb,rfl⟩ noFill_tuple_add seq_tuple_add PySem.F.slot_tuple_add PySem.F.entry_tuple_add (PySem.F.args_tuple_add_2 _ _)
  (tuple_addW0 a b _ _ n n2 dd De sl Ko (by simp)) ⟨ho,Gb,⟨.ref b,H,I,rfl,q⟩⟩
def ug:D→D→M D
 | .tup x, .tup y=>if x.length+y.length≤lim then M.ret (.tup (x++y)) else M.stuck
 |_,_=>M.stuck
theorem D7(ha:PD X Xw a δa)(hb:PD X Xw b δb):PD X Xw (.BinOp a .Add b pos) (d2 ug δa δb):=qT (BA.or DY) (fun Xw F H x y dx dy Q s hx hy w=>by
 unfold ug at w
 split at w
 ·rename_i i j
  obtain⟨a,vs,h1,h2,h3,h4⟩:=hx
  obtain⟨a',vs',k1,k2,k3,k4⟩:=hy
  split at w
  ·rename_i hl
   have e1:=h3.len
   have e2:=k3.len
   have:=dH
   by_cases hv:vs=[]
   ·subst hv
    have:i=[]:=by cases i with | nil=>rfl | cons _ _=>simp at e1
    subst this
    exact .inl ⟨a,a',vs',h1,k1,SqT.of (s _ _ h2),SqT.of (s _ _ k2),WP.now w s ⟨a',vs',k1▸rfl,k2,k3,k4⟩⟩
   ·refine .inr ⟨a,a',vs,vs',h1,k1,SqT.of (s _ _ h2),SqT.of (s _ _ k2),hv,by omega,fun z=>?_,fun z p hp=>?_⟩
    ·subst z
     have:j=[]:=by cases j with | nil=>rfl | cons _ _=>simp at e2
     subst this
     rw[List.append_nil] at w
     exact WP.now w s ⟨a,vs,rfl,h2,h3,h4⟩
    ·exact WP.fin w (Ext.lay s hp) ⟨p,_,rfl,az,DenL.mono (Ext.lay s hp).ff (h3.append k3),by rw[List.length_append];exact hl⟩
  ·exact w.elim
 ·exact w.elim) ha hb
end
section
variable{X:Cx}{Xw:Nat→Hp→Prop}{a b e e2 o:Expr}{es:List Expr}{δ δa δb δo:DE}{δs:DA}{pos p apos a6:Pos}
def dM(kd:D→Bool)(g:D→List D→M D)(o:DE)(s:DA):DE:=fun ρ=>o ρ>>=fun d=>if kd d then s ρ>>=fun ds=>g d ds else M.stuck
theorem Js{T:String}{name:Str}{id:String}{r:V→List V→Hp→VK→Prop}{kd:D→Bool}{g:D→List D→M D}(pa:PlainAttrs T)(slot:Slot T name id)(LF:typeOf (.builtin id)=pure (.type "method_descriptor"))(hm:Kw X id r)
 (hk:∀(F H:Hp) (x:V) (d:D),kd d=true→Same F H→Den X.K F d x→Ks X.K T x H)
 (hd:∀(Xw:Nat→Hp→Prop) (F H:Hp) (x:V) (vs:List V) (d:D) (ds:List D) (Q:VK),Same F H→Den X.K F d x→DenL X.K F ds vs→WP X.K Xw F H (g d ds) Q→r x vs H Q)
 (ho:PD X Xw o δo)(ha:mV X Xw (e::es) δs)
 (jH:attributeBase o name X.env (eval o X.env)=eval o X.env:=by rfl)
 (rV:((backTo a6 (starEach (e::es) X.env)).all (fun x=>!x.1)&&(backToKw a6 (keywordEach [] X.env)).all (fun x=>x.1.isSome)
  &&decide ((e::es).length+([]:List Keyword).length+(if ([]:List Keyword).isEmpty then 0 else 1)<30))=true:=by rfl)
 (jI:(apos.endLine==a6.line)=true:=by rfl) (hs:starEach (e::es) X.env=(false,eval e X.env)::starEach es X.env:=by rfl) (v5:(backTo a6 (starEach es X.env)).any (·.1)=false:=by rfl):
 PD X Xw (.Call (.Attribute o name apos) (e::es) [] a6) (dM kd g δo δs):=PE.weak (BN pa slot LF hm ho ha jH rV jI hs v5) fun σ H Q ⟨F,ρ,s,w⟩=>by
 refine⟨F,ρ,s,WP.mono (WP.bind w) fun v H1 ⟨F1,d,e1,q1,w1⟩=>?_⟩
 split at w1
 ·rename_i Ox
  refine⟨hk F1 H1 v d Ox e1.fh q1,F1,ρ,s.ext e1,WPL.mono (WP.bindL w1) fun vs H2 ⟨F2,ds,e2,q2,w2⟩=>?_⟩
  exact hd Xw F2 H2 v vs d ds Q e2.fh (Den.mono e2.ff q1) q2 w2
 ·exact w1.elim
def vF:D→Bool
 | .str _=>true
 |_=>false
theorem Gm{K:W.Frag}(F H:Hp)(x:V)(d:D)(h:vF d=true)(s:Same F H)(q:Den K F d x):Ks K "str" x H:=by
 cases d with
 |str z=>cases (show _=_ from q.1);exact rfl
 |_=>cases h
def jt:List D→Option (List Str)
 |[]=>some []
 | .str x::r=>(jt r).map (x:: ·)
 |_=>none
theorem o7{K:W.Frag}{F:Hp}:∀{ds:List D}{vs:List V}{xs:List Str},jt ds=some xs→DenL K F ds vs→vs=xs.map V.str
 |[],_,_,e,h=>by cases e;exact h
 | .str b::r,_,_,e,⟨v,r',h1,h2,h3⟩=>by
   unfold jt at e
   cases q:jt r with
   |none=>rw[q] at e;cases e
   |some bs=>rw[q] at e;cases e;subst h1;rw[o7 q h3,show v= .str b from h2.1];rfl
 | .non::_,_,_,e,_=>by cases e
 | .int _::_,_,_,e,_=>by cases e
 | .bl _::_,_,_,e,_=>by cases e
 | .raw _::_,_,_,e,_=>by cases e
 | .exc _::_,_,_,e,_=>by cases e
 | .scr _::_,_,_,e,_=>by cases e
 | .tup _::_,_,_,e,_=>by cases e
 | .lst _::_,_,_,e,_=>by cases e
theorem pb:∀{xs:List Str}{aF:List Value},Vals (xs.map V.str) aF→StrsAre aF xs
 |[],_,r=>by cases r;exact .nil
 |b::bs,_,r=>by
  cases r with
  |cons r1 r2=>obtain⟨t,rfl⟩:=r1;exact .cons b t (pb r2)
def cS:List Str→Str
 |[]=>⟨#[]⟩
 |x::r=>x++cS r
def joinM:D→List D→M D
 | .str sep,[.lst ds]=>match jt ds with
   |some xs=>if sep.length=0∧(xs.map (·.length)).sum≤lim then M.ret (.str (cS xs)) else M.stuck
   |none=>M.stuck
 | .str sep,[.tup ds]=>match jt ds with
   |some xs=>if sep.length=0∧(xs.map (·.length)).sum≤lim then M.ret (.str (cS xs)) else M.stuck
   |none=>M.stuck
 |_,_=>M.stuck
theorem m_:∀xs:List Str,(cS xs).length=(xs.map (·.length)).sum
 |[]=>rfl
 |x::r=>by
  show (x++cS r).length=_
  rw[ip,m_ r,List.map_cons,List.sum_cons]
theorem EB{x:Str}(h:x.length=0):x=⟨#[]⟩:=by
 obtain⟨⟨l⟩⟩:=x
 have:l.length=0:=h
 cases l with
 |nil=>rfl
 |cons _ _=>simp at this
theorem md(x:Str):x++(⟨#[]⟩:Str)=x:=by
 obtain⟨c⟩:=x
 show (⟨c++ #[]⟩:Str)=⟨c⟩
 simp
theorem lI(sep:Str)(h:sep.length=0):∀xs:List Str,Txt.join sep xs=cS xs:=by
 have e:=EB h
 subst e
 intro xs
 show Builtin.Str.glued _ xs=_
 rw[StrLaws.glued_eq_join]
 induction xs with
 |nil=>rfl
 |cons x r ih=>
  cases r with
  |nil=>show x=x++(⟨#[]⟩:Str);rw[md]
  |cons y r=>show x++(⟨#[]⟩:Str)++Str.join _ (y::r)=x++cS (y::r);rw[md,ih]
def rJoin(K:W.Frag):V→List V→Hp→VK→Prop:=fun x vs H Q=>∃(sep:Str) (a:Addr) (xs:List Str),x= .str sep∧vs=[.ref a]∧(H a=some (.lst (xs.map V.str))∨H a=some (.tup (xs.map V.str)))∧sep.length=0∧(xs.map (·.length)).sum≤lim∧Q (.str (cS xs)) H
theorem DV:Kw X "str.join" (rJoin X.K):=by
 intro pins s σ H x vs v us Q I rx rv h
 obtain⟨sep,a,xs,rfl,rfl,hH,hs,hl,q⟩:=h
 obtain⟨t,rfl⟩:=rx
 obtain⟨u,rfl,r1⟩:=rv.one
 cases (show u=_ from r1)
 have hok:(xs.map (·.length)).sum+xs.length*sep.length≤16777216:=by
  rw[hs,Nat.mul_zero]
  unfold lim at hl
  omega
 rcases hH with hH | hH
 ·obtain⟨aF,r2,pl,hz⟩:=I.list (SqL.of (K:=X.K) hH)
  refine join_list pl.isList (by simpa using pb r2) hok fun t' k=>⟨.str (cS xs),H,I.tok k,⟨t',by rw[lI sep hs]⟩,q⟩
 ·obtain⟨aF,r2,pl,hz⟩:=I.tuple (SqT.of (K:=X.K) hH)
  refine join_tuple pl (by simpa using pb r2) hok fun t' k=>⟨.str (cS xs),H,I.tok k,⟨t',by rw[lI sep hs]⟩,q⟩
theorem sE(ho:PD X Xw o δo)(ha:mV X Xw [e] δs)(jH:attributeBase o "join" X.env (eval o X.env)=eval o X.env:=by rfl)
 (rV:((backTo a6 (starEach [e] X.env)).all (fun x=>!x.1)&&(backToKw a6 (keywordEach [] X.env)).all (fun x=>x.1.isSome)&&decide ([e].length+([]:List Keyword).length+(if ([]:List Keyword).isEmpty then 0 else 1)<30))=true:=by rfl)
 (jI:(apos.endLine==a6.line)=true:=by rfl)(v7:starEach [e] X.env=[(false,eval e X.env)]:=by rfl):PD X Xw (.Call (.Attribute o "join" apos) [e] [] a6) (dM vF joinM δo δs):=
 Js PySem.F.plainAttrs_str PySem.F.slot_str_join PySem.F.type_str_join DV Gm (fun Xw F H x vs d ds Q s hx hv w=>by
  unfold joinM at w
  split at w
  ·rename_i sep ds
   obtain⟨v,rfl,h1⟩:=hv.one
   obtain⟨a,ws,rfl,h2,h3,_⟩:=h1
   split at w
   ·rename_i xs Ja
    split at w
    ·rename_i hc
     exact⟨sep,a,xs,hx.1,rfl, .inl (by rw[←o7 Ja h3];exact s _ _ h2),hc.1,hc.2,WP.now w s ⟨rfl,by rw[m_];exact hc.2⟩⟩
    ·exact w.elim
   ·exact w.elim
  ·rename_i sep ds
   obtain⟨v,rfl,h1⟩:=hv.one
   obtain⟨a,ws,rfl,h2,h3,_⟩:=h1
   split at w
   ·rename_i xs Ja
    split at w
    ·rename_i hc
     exact⟨sep,a,xs,hx.1,rfl, .inr (by rw[←o7 Ja h3];exact s _ _ h2),hc.1,hc.2,WP.now w s ⟨rfl,by rw[m_];exact hc.2⟩⟩
    ·exact w.elim
   ·exact w.elim
  ·exact w.elim) ho ha jH rV jI v7 rfl
def rl:List D→M D
 |[.lst ds]=>M.ret (.tup ds)
 |[.tup ds]=>M.ret (.tup ds)
 |_=>M.stuck
theorem oE(hg:Gl X "tuple")(hm:X.mg "tuple"=none)(hb:bootBuiltins "tuple"=some (.type "tuple"))(ha:mV X Xw [e] δs)(he:starEach [e] X.env=[(false,eval e X.env)]:=by rfl):PD X Xw (.Call (.Name "tuple" p) [e] [] pos) (dA rl δs):=
 zE pA (fun Xw F H vs ds Q s h w=>by
  unfold rl at w
  split at w
  ·rename_i ds
   obtain⟨v,rfl,h1⟩:=h.one
   obtain⟨a,ws,rfl,h2,h3,h4⟩:=h1
   exact⟨a,ws,rfl, .inl ⟨SqL.of (s _ _ h2),fun l hl=>WP.fin w (Ext.lay s hl) ⟨l,ws,rfl,az,DenL.mono (Ext.lay s hl).ff h3,h4⟩⟩⟩
  ·rename_i ds
   obtain⟨v,rfl,h1⟩:=h.one
   obtain⟨a,ws,rfl,h2,h3,h4⟩:=h1
   exact⟨a,ws,rfl, .inr ⟨SqT.of (s _ _ h2),WP.now w s ⟨a,ws,rfl,h2,h3,h4⟩⟩⟩
  ·exact w.elim) hg hm hb ha (by decide) (by decide) he rfl
theorem wL(hc:X.calm=true)(hg:Gl X "max")(hm:X.mg "max"=none)(hb:bootBuiltins "max"=some (.builtin "max"))(ha:mV X Xw [e,e2] δs)(he:starEach [e,e2] X.env=(false,eval e X.env)::starEach [e2] X.env:=by rfl)
 (mD:(backTo pos (starEach [e2] X.env)).any (·.1)=false:=by rfl):PD X Xw (.Call (.Name "max" p) [e,e2] [] pos) (dA wj δs):=
 dq (yK hc) (fun Xw F H vs ds Q s h w=>by
  unfold wj at w
  split at w
  ·obtain⟨v,v',rfl,h1,h2⟩:=h.two
   cases (show _=_ from h1)
   cases (show _=_ from h2)
   exact⟨_,_,rfl,WP.now w s rfl⟩
  ·exact w.elim) hg hm hb ha (by decide) (by decide) he mD
theorem BL(hc:X.calm=true)(hg:Gl X "min")(hm:X.mg "min"=none)(hb:bootBuiltins "min"=some (.builtin "min"))(ha:mV X Xw [e,e2] δs)(he:starEach [e,e2] X.env=(false,eval e X.env)::starEach [e2] X.env:=by rfl)
 (mD:(backTo pos (starEach [e2] X.env)).any (·.1)=false:=by rfl):PD X Xw (.Call (.Name "min" p) [e,e2] [] pos) (dA zk δs):=
 dq (yL hc) (fun Xw F H vs ds Q s h w=>by
  unfold zk at w
  split at w
  ·obtain⟨v,v',rfl,h1,h2⟩:=h.two
   cases (show _=_ from h1)
   cases (show _=_ from h2)
   exact⟨_,_,rfl,WP.now w s rfl⟩
  ·exact w.elim) hg hm hb ha (by decide) (by decide) he mD
def nums:List D→Option (List Int)
 |[]=>some []
 | .int x::r=>(nums r).map (x:: ·)
 |_=>none
theorem jJ{K:W.Frag}{F:Hp}:∀{ds:List D}{vs:List V}{xs:List Int},nums ds=some xs→DenL K F ds vs→vs=xs.map V.int
 |[],_,_,e,h=>by cases e;exact h
 | .int b::r,_,_,e,⟨v,r',h1,h2,h3⟩=>by
   unfold nums at e
   cases q:nums r with
   |none=>rw[q] at e;cases e
   |some bs=>rw[q] at e;cases e;subst h1;rw[jJ q h3,show v= .int b from h2];rfl
 | .non::_,_,_,e,_=>by cases e
 | .str _::_,_,_,e,_=>by cases e
 | .bl _::_,_,_,e,_=>by cases e
 | .raw _::_,_,_,e,_=>by cases e
 | .exc _::_,_,_,e,_=>by cases e
 | .scr _::_,_,_,e,_=>by cases e
 | .tup _::_,_,_,e,_=>by cases e
 | .lst _::_,_,_,e,_=>by cases e
def Dr(neg:Bool):D→D→M D
 | .int i, .tup ds=>match nums ds with | some ns=>M.ret (.bl (if neg then !ns.contains i else ns.contains i)) | none=>M.stuck
 |_,_=>M.stuck
theorem A4(i:Int)(ns:List Int):Kj (.int i) (ns.map V.int)=ns.contains i:=by
 unfold Kj
 rw[List.any_map]
 induction ns with
 |nil=>rfl
 |cons n ns ih=>
  rw[List.any_cons,List.contains_cons,ih]
  congr 1
  show CV (.int n) (.int i)=(i==n)
  unfold CV
  exact Bool.beq_comm
theorem Gi{neg:Bool}{K:W.Frag}:vD K (Nv K neg) (Dr neg):=fun Xw F H x y dx dy Q s hx hy w=>by
 unfold Dr at w
 split at w
 ·rename_i i ds
  obtain⟨a,vs,h1,h2,h3,h4⟩:=hy
  split at w
  ·rename_i ns hn
   have hv:=jJ hn h3
   subst hv
   cases (show _=_ from hx)
   refine⟨a,ns.map V.int,h1, .inr (SqT.of (s _ _ h2)),rfl,?_,?_⟩
   ·rw[List.all_map]
    exact List.all_eq_true.mpr fun _ _=>rfl
   ·rw[A4]
    exact WP.now w s rfl
  ·exact w.elim
 ·exact w.elim
theorem zL(ha:PD X Xw a δa)(hb:PD X Xw b δb)(hm:behindInMarks .NotIn b=false:=by rfl):rp X Xw (.Compare a [.NotIn] [b] pos) (df (d2 (Dr true) δa δb)):=iE sy Gi ha hb hm
def AK(neg:Bool):D→D→M D
 | .str x, .str y=>M.ret (.bl (if neg then !(!(Builtin.Str.occurrences y x 0 y.length 1).isEmpty) else !(Builtin.Str.occurrences y x 0 y.length 1).isEmpty))
 |_,_=>M.stuck
theorem GN(ha:PD X Xw a δa)(hb:PD X Xw b δb)(hm:behindInMarks .In b=false:=by rfl):PD X Xw (.Compare a [.In] [b] pos) (d2 (AK false) δa δb):=BJ zx (fun Xw F H x y dx dy Q s hx hy w=>by
 unfold AK at w
 split at w
 ·exact⟨_,_,hx.1,hy.1,WP.now w s rfl⟩
 ·exact w.elim) ha hb hm
end
end L3
namespace L3
open PySem PySem.Spec L2 SeqAt HT
open PyProof.Rows hiding St
section
variable{prog:Program}{w:World}{A:Around}{E:Value→Shared→Prop}{s:Shared}
theorem iN{t sl:Addr}{items:Array Value}{vl vu:Value}{lo hi:Option Int}{Q:Value→Shared→Prop}(ht:IsTup s.heap t items)(hs:s.heap.IsSliceOf sl vl vu .none)(pl:IsPart vl lo)(pu:IsPart vu hi)
 (hw:sIx items.size 0 lo=0∧sIx items.size items.size hi=items.size)(h:Q (.ref t) s):wpAny (model prog w) A (getItem (.ref t) (.ref sl)) Q E s:=by
 obtain⟨os,uu,FU,yX⟩:=id hs
 have Iz:s.TypeIs (.ref sl) "slice":=⟨os,uu,FU⟩
 unfold getItem
 try with_reducible refine wpAny_holding ?_
 first | refine wpAny_bind (wpAny_pure ?_) | skip
 refine wpAny_bind (wpAny_sequenceKey ht.typeIs (by decide) ?_)
 refine wpAny_bind (wpAny_callSpecial?_slot (name:=Str.ofString "__getitem__") ht.typeIs PyProof.Rows.slot_tuple_getitem
  (wpAny_call_entry PyProof.Rows.slot_tuple_getitem ht.typeIs entry_tuple_getitem ?_ (args_tuple_getitem _ _)))
 show wpAny _ _ (Builtin.Tuple.tupleItemsOf (.ref t)>>=_) _ _ s
 refine wpAny_bind (tupleItemsOf_ ht ?_)
 refine wpAny_bind (wpAny_typeOf Iz ?_)
 rw[if_pos (by decide)]
 refine wpAny_bind (sliceApplied_gen hs pl pu ?_)
 have nB:((((sIx items.size 0 lo:Nat):Int)==0&&(1:Int)==1&&(sIx items.size items.size hi - sIx items.size 0 lo)==items.size)=true):=by
  rw[hw.1,hw.2]
  simp
 show wpAny _ _ (if (((sIx items.size 0 lo:Nat):Int)==0&&(1:Int)==1&&(sIx items.size items.size hi - sIx items.size 0 lo)==items.size)=true then _ else _) _ _ s
 rw[if_pos nB]
 refine wpAny_bind ?_
 unfold Builtin.Tuple.tupleIsExact
 refine wpAny_bind (wpAny_typeOf ht.typeIs (wpAny_pure ?_))
 rw[if_pos (by decide)]
 exact wpAny_bind (wpAny_rule (wpAny_pure ⟨_,rfl,wpAny_pure h⟩))
end
section
variable{X:Cx}{Xw:Nat→Hp→Prop}{a b e:Expr}{lo hi:Option Expr}{δ δa δb:DE}{pos p p2:Pos}
theorem Ex:SlR X (fun x lo hi H Q=>∃a xs,x= .ref a∧SqT X.K H a xs∧(sIx xs.length 0 lo=0∧sIx xs.length xs.length hi=xs.length)∧Q (.ref a) H):=by
 intro pins s σ H x v vl vu lo hi sl Q I rx hs pl pu h
 obtain⟨a,xs,rfl,hx,hw,q⟩:=h
 cases rx
 obtain⟨aF,r,ht,hz⟩:=I.tuple hx
 have hlen:aF.toArray.size=xs.length:=by rw[List.size_toArray];exact r.length.symm
 exact⟨"tuple",_,PyProof.Rows.slot_tuple_getitem.lookup,ht.typeIs,iN ht hs pl pu (by rw[hlen];exact hw) ⟨.ref a,H,I,rfl,q⟩⟩
theorem Ho:SlR X (fun x lo hi H Q=>∃z:Str,x= .str z∧z.length≤lim∧Q (.str (Txt.slice z lo hi)) H):=by
 intro pins s σ H x v vl vu lo hi sl Q I rx hs pl pu h
 obtain⟨z,rfl,hl,q⟩:=h
 obtain⟨t,rfl⟩:=rx
 have hz:z.length≤sizeLine:=by have:=dH;omega
 cases pl with
 |none=>
  cases pu with
  |none=>exact⟨"str",_,PySem.F.slot_str_getitem.lookup,typeIs_str _ _ _,wpAny_getItem_str_slice (l:=none) (u:=none) (st:=none) hs rfl (post_val_or_str ⟨Nat.le_trans (Txt.slice_le z _ _) hz,fun t' k=>⟨.str _,H,I.tok k,⟨t',rfl⟩,q⟩⟩)⟩
  |int j uj=>exact⟨"str",_,PySem.F.slot_str_getitem.lookup,typeIs_str _ _ _,wpAny_getItem_str_slice (l:=none) (u:=some (j,uj)) (st:=none) hs rfl (post_val_or_str ⟨Nat.le_trans (Txt.slice_le z _ _) hz,fun t' k=>⟨.str _,H,I.tok k,⟨t',rfl⟩,q⟩⟩)⟩
 |int i ui=>
  cases pu with
  |none=>exact⟨"str",_,PySem.F.slot_str_getitem.lookup,typeIs_str _ _ _,wpAny_getItem_str_slice (l:=some (i,ui)) (u:=none) (st:=none) hs rfl (post_val_or_str ⟨Nat.le_trans (Txt.slice_le z _ _) hz,fun t' k=>⟨.str _,H,I.tok k,⟨t',rfl⟩,q⟩⟩)⟩
  |int j uj=>exact⟨"str",_,PySem.F.slot_str_getitem.lookup,typeIs_str _ _ _,wpAny_getItem_str_slice (l:=some (i,ui)) (u:=some (j,uj)) (st:=none) hs rfl (post_val_or_str ⟨Nat.le_trans (Txt.slice_le z _ _) hz,fun t' k=>⟨.str _,H,I.tok k,⟨t',rfl⟩,q⟩⟩)⟩
abbrev DO:=aY→M (Option Int)
def WPO(Xw:Nat→Hp→Prop)(F H:Hp)(m:M (Option Int))(Q:Option Int→Hp→Prop):Prop:=
 match m with
 |none=>False
 |some (.ok b)=>∀H' F',Ext F H F' H'→Q b H'
 |some (.ex n)=>∀F' H',Ext F H F' H'→Xw n H'
def Pn(K:W.Frag)(Xw:Nat→Hp→Prop)(δ:DO):TO:=fun σ H Q=>∃F ρ,StE K F H σ ρ∧WPO Xw F H (δ ρ) Q
def Kx(X:Cx)(Xw:Nat→Hp→Prop)(e:Option Expr)(δ:DO):Prop:=PO X e (Pn X.K Xw δ)
def oS(δ:DE):DO:=fun ρ=>δ ρ>>=fun d=>match d with | .int i=>M.ret (some i) | _=>M.stuck
theorem j6(h:PD X Xw e δ):Kx X Xw (some e) (oS δ):=fun pins s σ H Q I ⟨F,ρ,S,w⟩=>Eg h pins s σ H Q I ⟨F,ρ,S,by
 have w:WPO Xw F H (δ ρ>>=fun d=>match d with | .int i=>M.ret (some i) | _=>M.stuck) Q:=w
 rcases(δ ρ).cs with q | ⟨n,q⟩ | ⟨d,q⟩
 ·rw[q] at w;exact w.elim
 ·rw[q] at w⊢;exact w
 ·rw[q] at w⊢
  intro v H' F' e' hd
  cases d with
  |int i=>exact⟨i,hd,w H' F' e'⟩
  |_=>exact w.elim⟩
theorem WP.bindO{K:W.Frag}{Xw:Nat→Hp→Prop}{F H:Hp}{Q:VK}{m:M (Option Int)}{k:Option Int→M D}(h:WP K Xw F H (m>>=k) Q):WPO Xw F H m fun b H1=>∃F1,Ext F H F1 H1∧WP K Xw F1 H1 (k b) Q:=by
 match m,h with
 |none,h=>exact h
 |some (.ok d),h=>exact fun H2 F2 e2=>⟨F2,e2,WP.ext e2 (show WP K Xw F H (k d) Q from h)⟩
 |some (.ex n),h=>exact h
theorem WPO.mono{Xw:Nat→Hp→Prop}{F H:Hp}{m:M (Option Int)}{Q Q':Option Int→Hp→Prop}(h:WPO Xw F H m Q)(k:∀v H',Q v H'→Q' v H'):WPO Xw F H m Q':=by
 match m,h with
 |none,h=>exact h
 |some (.ok d),h=>exact fun H2 F2 e2=>k _ _ (h H2 F2 e2)
 |some (.ex n),h=>exact h
def cutD(ds:List D)(lo hi:Option Int):List D:=(ds.drop (sIx ds.length 0 lo)).take (sIx ds.length ds.length hi - sIx ds.length 0 lo)
def Nw:D→Option Int→Option Int→M D
 | .tup ds,lo,hi=>M.ret (.tup (cutD ds lo hi))
 | .lst ds,lo,hi=>M.ret (.lst (cutD ds lo hi))
 | .str x,lo,hi=>M.ret (.str (Txt.slice x lo hi))
 |_,_,_=>M.stuck
def Aq(a:DE)(lo hi:DO):DE:=fun ρ=>a ρ>>=fun d=>lo ρ>>=fun l=>hi ρ>>=fun h=>Nw d l h
theorem tW(ds:List D)(lo hi:Option Int):(cutD ds lo hi).length≤ds.length:=by
 unfold cutD
 rw[List.length_take,List.length_drop]
 omega
theorem DenL.cut{K:W.Frag}{F:Hp}{ds:List D}{vs:List V}(h:DenL K F ds vs)(lo hi:Option Int):DenL K F (cutD ds lo hi) (tX vs lo hi):=by
 unfold cutD tX
 rw[h.len]
 exact(h.drop _).take _
theorem Fe{δo:DE}{κl κh:DO}(he:PD X Xw e δo)(hl:Kx X Xw lo κl)(hh:Kx X Xw hi κh):PD X Xw (.Subscript e (.Slice lo hi none p2) pos) (Aq δo κl κh):=
 PE.weak (BW (Ex.or (Hq.or (Ew.or Ho))) he hl hh) fun σ H Q ⟨F,ρ,s,w⟩=>by
  refine⟨F,ρ,s,WP.mono (WP.bind w) fun v H1 ⟨F1,d,e1,q1,w1⟩=>?_⟩
  refine⟨F1,ρ,s.ext e1,WPO.mono (WP.bindO w1) fun l H2 ⟨F2,e2,w2⟩=>?_⟩
  refine⟨F2,ρ,(s.ext e1).ext e2,WPO.mono (WP.bindO w2) fun h H3 ⟨F3,e3,w3⟩=>?_⟩
  have q3:=Den.mono (e2.ff.trans e3.ff) q1
  have fh:=e3.fh
  cases d with
  |tup ds=>
   obtain⟨a,vs,rfl,h2,h3,h4⟩:=q3
   by_cases hw:sIx vs.length 0 l=0∧sIx vs.length vs.length h=vs.length
   ·refine .inl ⟨a,vs,rfl,SqT.of (fh _ _ h2),hw,?_⟩
    have hc:cutD ds l h=ds:=by
     unfold cutD
     rw[h3.len,hw.1,hw.2,Nat.sub_zero,List.drop_zero,←h3.len,List.take_length]
    have w3:WP X.K Xw F3 H3 (M.ret (.tup (cutD ds l h))) Q:=w3
    rw[hc] at w3
    exact WP.now w3 fh ⟨a,vs,rfl,h2,h3,h4⟩
   ·exact .inr (.inl ⟨a,vs,rfl,SqT.of (fh _ _ h2),hw,fun p hp=>WP.fin w3 (Ext.lay fh hp) ⟨p,_,rfl,az,DenL.mono (Ext.lay fh hp).ff (h3.cut l h),Nat.le_trans (tW _ _ _) h4⟩⟩)
  |lst ds=>
   obtain⟨a,vs,rfl,h2,h3,h4⟩:=q3
   exact .inr (.inr (.inl ⟨a,vs,rfl,SqL.of (fh _ _ h2),fun p hp=>WP.fin w3 (Ext.lay fh hp) ⟨p,_,rfl,az,DenL.mono (Ext.lay fh hp).ff (h3.cut l h),Nat.le_trans (tW _ _ _) h4⟩⟩))
  |str x=>exact .inr (.inr (.inr ⟨x,q3.1,q3.2,WP.now w3 fh ⟨rfl,Nat.le_trans (Txt.slice_le x _ _) q3.2⟩⟩))
  |_=>exact w3.elim
end
section
variable{prog:Program}{w:World}{A:Around}{E:Value→Shared→Prop}{s:Shared}
end
section
variable{X:Cx}{Xw:Nat→Hp→Prop}{a b e:Expr}{δ δa δb:DE}{pos p p2:Pos}
end
def J1(x:Str):It:=⟨fun i _=>i<x.cps.size,fun i H v H'=>H'=H∧∃c,x.cps[i]? =some c∧v= .str ⟨#[c]⟩,fun i _=>x.cps.size≤i⟩
theorem zU{P:Program}{w:World}{K:W.Frag}{tg:Expr}(it:Addr)(x:Str)(t:Tok):Turn P w K tg (J1 x) [it] it (fun i h=>i≤x.cps.size∧h.IsStrIter it "str_ascii_iterator" x t i) where
 mem:=by simp
 obj:=fun i h st b hb=>by
  have e:b=it:=by simpa using hb
  subst e
  obtain⟨_,o,e,c,d⟩:=st
  exact⟨o,e,fun v z=>by rw[d] at z;cases z⟩
 keep:=fun i h h' st k=>⟨st.1,let ⟨o,e,r⟩:=st.2;⟨o,k it (by simp) o e,r⟩⟩
 item:=by
  intro X hP hw hK hc i pins s σ H E I hf st hg
  subst hP hw hK
  obtain⟨f0,f1,f2,f3,f4,f5⟩:=hf it (by simp)
  have hi:i<x.cps.size:=hg
  refine(Walks.strAscii (prog:=X.prog) (w:=X.w) (I.ok.hd hc) it x t).item i s _ _ hi st.2 fun v h' tk hv oZ kk=>?_
  obtain⟨c,u,K4,rfl⟩:=hv
  have I1:Inv X pins σ H {s with heap:=h',toks:=tk}:=I.turned (fun b o hb e=>kk b o (by simpa using hb) e) f0 f1 f3 f4 f5
  obtain⟨o,e,cc,dd⟩:=id oZ
  exact⟨_,rfl,qi (s:={s with heap:=h',toks:=tk}) e cc dd (by decide) ⟨.str ⟨#[c]⟩,H,I1,⟨u,rfl⟩,⟨rfl,c,K4,rfl⟩,⟨hi,oZ⟩,fun b hb=>(hf b hb).1⟩⟩
 done:=by
  intro X hP hw hK hc i pins s σ H E I hf st hg
  subst hP hw hK
  obtain⟨f0,f1,f2,f3,f4,f5⟩:=hf it (by simp)
  have hi:i=x.cps.size:=Nat.le_antisymm st.1 hg
  subst hi
  exact(Walks.strAscii (prog:=X.prog) (w:=X.w) (I.ok.hd hc) it x t).done s _ _ st.2 fun h' tk kk=>⟨rfl,I.turned (fun b o hb e=>kk b o (by simpa using hb) e) f0 f1 f3 f4 f5⟩
 self:=fun _ _ _ _ _ st h=>wpAny_pyIter_striter_ascii st.2 h
theorem zV{P:Program}{w:World}{K:W.Frag}{tg:Expr}(it:Addr)(x:Str)(t:Tok):Turn P w K tg (J1 x) [it] it (fun i h=>i≤x.cps.size∧h.IsStrIter it "str_iterator" x t i) where
 mem:=by simp
 obj:=fun i h st b hb=>by
  have e:b=it:=by simpa using hb
  subst e
  obtain⟨_,o,e,c,d⟩:=st
  exact⟨o,e,fun v z=>by rw[d] at z;cases z⟩
 keep:=fun i h h' st k=>⟨st.1,let ⟨o,e,r⟩:=st.2;⟨o,k it (by simp) o e,r⟩⟩
 item:=by
  intro X hP hw hK hc i pins s σ H E I hf st hg
  subst hP hw hK
  obtain⟨f0,f1,f2,f3,f4,f5⟩:=hf it (by simp)
  have hi:i<x.cps.size:=hg
  refine(Walks.strWide (prog:=X.prog) (w:=X.w) (I.ok.hd hc) it x t).item i s _ _ hi st.2 fun v h' tk hv oZ kk=>?_
  obtain⟨c,u,K4,rfl⟩:=hv
  have I1:Inv X pins σ H {s with heap:=h',toks:=tk}:=I.turned (fun b o hb e=>kk b o (by simpa using hb) e) f0 f1 f3 f4 f5
  obtain⟨o,e,cc,dd⟩:=id oZ
  exact⟨_,rfl,qi (s:={s with heap:=h',toks:=tk}) e cc dd (by decide) ⟨.str ⟨#[c]⟩,H,I1,⟨u,rfl⟩,⟨rfl,c,K4,rfl⟩,⟨hi,oZ⟩,fun b hb=>(hf b hb).1⟩⟩
 done:=by
  intro X hP hw hK hc i pins s σ H E I hf st hg
  subst hP hw hK
  obtain⟨f0,f1,f2,f3,f4,f5⟩:=hf it (by simp)
  have hi:i=x.cps.size:=Nat.le_antisymm st.1 hg
  subst hi
  exact(Walks.strWide (prog:=X.prog) (w:=X.w) (I.ok.hd hc) it x t).done s _ _ st.2 fun h' tk kk=>⟨rfl,I.turned (fun b o hb e=>kk b o (by simpa using hb) e) f0 f1 f3 f4 f5⟩
 self:=fun _ _ _ _ _ st h=>wpAny_pyIter_striter_wide st.2 h
section
variable{X:Cx}{Xw:Nat→Hp→Prop}{tg a b e l o:Expr}{δ δa δb δo:DE}{δs:DA}{pos p p2 apos a6:Pos}
def LL(tl:TE):TI:=fun σ H R=>tl σ H fun x H1=>∃z,x= .str z∧R (J1 z) H1
theorem G8{tl:TE}(hl:PE X l tl):PI X tg l (LL tl):=by
 intro pins s σ H R I h
 refine bG (hl pins s σ H _ I h) fun v s1 ⟨x,H1,I1,r1,q1⟩=>?_
 obtain⟨z,e,q⟩:=q1
 subst e
 obtain⟨t,rfl⟩:=r1
 have fp:∀b∈[s1.heap.objs.size],tN X pins H1 b:=fun b hb=>by
  have e:b=s1.heap.objs.size:=by simpa using hb
  subst e
  exact I1.fpOk (Nat.le_refl _) (I1.hok.fresh (Nat.le_refl _))
 cases ha:z.cps.all (· <128)
 ·exact wpAny_pyIter_wide ha ⟨s1.heap.objs.size,[s1.heap.objs.size],_,_,H1,rfl,I1.kept (t':=s1.toks) fun b o e=>Heap.get?_push_of_some _ e,zV _ z t,⟨Nat.zero_le _,_,Heap.get?_push_size _ rfl,rfl,rfl⟩,fp,q⟩
 ·exact wpAny_pyIter_ascii ha ⟨s1.heap.objs.size,[s1.heap.objs.size],_,_,H1,rfl,I1.kept (t':=s1.toks) fun b o e=>Heap.get?_push_of_some _ e,zU _ z t,⟨Nat.zero_le _,_,Heap.get?_push_size _ rfl,rfl,rfl⟩,fp,q⟩
def signs(x:Str):List D:=x.cps.toList.map fun c=>D.str ⟨#[c]⟩
def oW:D→M (List D)
 | .str x=>M.ret (signs x)
 |_=>M.stuck
theorem DG{K:W.Frag}{F:Hp}(x:Str):ItD K F (J1 x) (signs x):=fun F' H' i s1 s2=>by
 refine⟨fun d e=>?_,fun hl=>show x.cps.size≤i by simpa[signs] using hl⟩
 unfold signs at e
 rw[List.getElem?_map] at e
 cases q:x.cps.toList[i]? with
 |none=>rw[q] at e;cases e
 |some c=>
  rw[q] at e
  cases e
  have hi:i<x.cps.size:=by
   have:=(List.getElem?_eq_some_iff.mp q).1
   simpa using this
  refine⟨hi,fun v H'' y=>?_⟩
  obtain⟨e2,c',EY,rfl⟩:=y
  subst e2
  have:c'=c:=by
   have q':x.cps[i]? =some c:=by simpa using q
   rw[q'] at EY
   exact(Option.some.inj EY).symm
  subst this
  exact⟨F',Ext.refl s2,rfl,by show 1≤lim;decide⟩
theorem sG(h:PD X Xw l δ):yy X Xw tg l (fun ρ=>δ ρ>>=oW):=PI.weak (G8 h) fun σ H R ⟨F,ρ,s,w⟩=>by
 refine⟨F,ρ,s,WP.mono (WPI.bind w) fun v H1 ⟨F1,d,e1,q1,w1⟩=>?_⟩
 cases d with
 |str z=>exact⟨z,q1.1,w1 _ _ _ (Ext.refl e1.fh) (DG z)⟩
 |_=>exact w1.elim
end
end L3
namespace L3
open PySem PySem.Spec L2 SeqAt HT
open PyProof.Rows hiding St
open PySem.W (Frag Looks InstAt findIn mroIn)
open PySem.Builtin PySem.Builtin.ObjectAttr PySem.Builtin.Getset_descriptor
section
variable{prog:Program}{w:World}{A:Around}{E:Value→Shared→Prop}{h:Heap}{g:Array GenState}{d:Drawn}{t:Nat}{os:OsState}{x D:Addr}{ox:Obj}{K:Frag}
structure ExcC (K:Frag) (D:Addr):Prop where
 ga:findIn K (.ref D) "__getattribute__"=some (some (.builtin "BaseException.__getattribute__"))
 gt:findIn K (.ref D) "__getattr__"=some none
 ca:findIn K (.ref D) "__class__"=some (some (.builtin "object.__class__"))
 mo:mroIn K D (.type "object")=some true
 mb:mroIn K D (.type "BaseException")=some true
 cl:(PySem.W.clsIn K D).isSome=true
end
section
variable{X:Cx}{Xw:Nat→Hp→Prop}{e e2:Expr}{δs:DA}{pos p:Pos}
end
end L3
namespace L3
open PySem PySem.Spec L2 SeqAt HT
open PyProof.Rows hiding St
open PySem.W (Frag Looks findIn mroIn)
section
variable{X:Cx}{pins pn:List (Addr×Obj)}{σ:St}{H:Hp}{s:Shared}{E:Value→Shared→Prop}{ea:Addr}
end
section
variable{P:Program}{w:World}{K:W.Frag}{mg:Str→Option Value}{base:Heap}{N:List Str}{qual:Str}{scope:Scope}{f:Addr}{cd:Value}{A:Around}{outer:List Env}{s₀:Shared}{H₀:Hp}{E:XK}{cv:Nat→Value}
end
end L3
namespace L3
open PySem PySem.Spec L2 SeqAt HT
open PyProof.Rows hiding St
structure RoomH (k:Nat) (A:Around):Prop where
 dp:A.depth+3*k+5<recursionLimit
 un:A.units+16*k+200<cLine
theorem RoomH.units{k:Nat}{A:Around}(r:RoomH k A):A.units+64<cLine:=by have:=r.un;omega
structure FnOkH (P:Program) (w:World) (K:W.Frag) (mg:Str→Option Value) (base:Heap) (k:Nat) (f:Addr) (fd:FuncData) (ps:List Str) (sp:Sp):Prop where
 len:∀vs H Q E,sp vs H Q E→vs.length=ps.length
 run:∀(A:Around) (outer:List Env) (s:Shared) (H:Hp) (args:Args) (us:List Value) (vs:List V) (Q:VK) (E:XK),RoomH k A→Env0 P w K mg base A outer s H→BindsTo s fd args (ps.zip us)→Vals vs us→sp vs H Q E→
  codeAny (model P w) A (.call (.ref f) args) (CR NF outer P w H s Q E) s
section
variable{P:Program}{w:World}{K:W.Frag}{mg:Str→Option Value}{base:Heap}{cv:Nat→Value}
end
section
variable{X:Cx}{Xw:Nat→Hp→Prop}{cv:Nat→Value}{k m:Nat}{f:Addr}{fd:FuncData}{ps:List Str}{g:List D→M D}{x:Str}{p pos:Pos}{e:Expr}{es:List Expr}{δs:DA}
end
def xE(N:List Str)(osc scope:Scope)(tn:List Str):Bool:=
 decide (scope.kind= .function)&&scope.names.all (fun y=>decide (y.2≠ .cell))&&scope.names.all (fun y=>decide (y.2= .local→scope.names.lookup y.1=some .local))&&
 scope.names.all (fun y=>decide (y.2= .free→(osc.names.lookup y.1=some .cell∨osc.names.lookup y.1=some .free)))&&
 ((cB tn N).zip N).all (fun p=>decide (scope.names.lookup p.1=none∨(p.1=p.2∧scope.names.lookup p.1=some .free)))
theorem br{X:Cx}{N:List Str}{osc scope:Scope}{tn:List Str}(hN:X.N=N)(ho:X.env.scope=osc)(h:xE N osc scope tn=true):CompSc X scope tn:=by
 unfold xE at h
 simp only[Bool.and_eq_true,List.all_eq_true,decide_eq_true_eq] at h
 obtain⟨⟨⟨⟨h1,h2⟩,h3⟩,h4⟩,h5⟩:=h
 refine⟨h1,h2,h3,fun y hy hf=>?_,?_⟩
 ·have:=h4 y hy hf
  rw[←ho] at this
  exact this
 ·rw[hN]
  exact h5
theorem cN{X:Cx}{x:Str}{px:Pos}{σ:St}(hN:X.N.Nodup)(h0:X.N[0]? =some x)(F0:X.env.scope.names.lookup x=some .local):yz X (.Name x px) 0 σ:=fun pins s σ' F H d ts v u I fh hd rv q e=>by
 have e:M.ret [d]=M.ret ts:=e
 have e:=er e
 subst e
 refine wpAny_assign_Name (vm I hN h0 (.inl F0) rv (fun s' I'=>⟨[v],?_, .cons q .nil⟩) (.inr F0))
 have hl:0<σ'.length:=by rw[I.len];exact(List.getElem?_eq_some_iff.mp h0).1
 have:σ'.set 0 (some v)=[v].map some++σ:=by
  cases σ' with
  |nil=>simp at hl
  |cons a r=>
   have hd:r=σ:=by simpa using hd
   subst hd
   rfl
 rw[←this]
 exact I'
theorem cO{P:Program}{w:World}{cv:Nat→Value}{X:Cx}:Passes (iM P w cv) X (EX cv fun _ _=>False):=fun _ _ _ _ _ _ _ ⟨_,_,_,_,_,_,_,_,_,_,_,_,_,_,z⟩=>z.elim
def bq(K:W.Frag)(mg:Str→Option Value)(x:Str)(st:Stmt)(f:Addr):Prop:=mg x=some (.ref f)∧∃fd,Fun K x x st f fd
def ai(P:Program)(w:World)(K:W.Frag)(mg:Str→Option Value)(base:Heap)(cv:Nat→Value)(k:Nat)(x:Str)(m:Nat)(g:List D→M D):Prop:=
 ∃f fd ps,mg x=some (.ref f)∧PySem.W.keepIn K (.ref f)=true∧Binds K fd ps []∧FnOk P w K mg base (iM P w cv) k f fd ps (HN K cv m g)
section
variable{X:Cx}{Xw:Nat→Hp→Prop}{cv:Nat→Value}{k m:Nat}{g:List D→M D}{x:Str}{p pos:Pos}{e:Expr}{es:List Expr}{δs:DA}
def ak(m:Nat)(g:List D→M D)(δs:DA):DE:=fun ρ=>δs ρ>>=fun ds=>if ds.length=m then g ds else M.stuck
theorem aQ(F:ai X.prog X.w X.K X.mg X.base cv k x m g)(hr:Room k X.A)(hg:Gl X x)(hx:Passes (iM X.prog X.w cv) X (EX cv Xw))
 (ha:mV X Xw (e::es) δs)(hl:(e::es).length=m)(rT:(x==("__debug__":Str))=false:=by decide)(he:starEach (e::es) X.env=(false,eval e X.env)::starEach es X.env:=by rfl)(mD:(backTo pos (starEach es X.env)).any (·.1)=false:=by rfl):
 PD X Xw (.Call (.Name x p) (e::es) [] pos) (ak m g δs):=by
 obtain⟨f,fd,ps,h1,h2,h3,h4⟩:=F
 exact D6 h4 hr hg h1 h2 h3 hx ha hl rT he mD
end
theorem ay{P:Program}{w:World}{K:W.Frag}{mg:Str→Option Value}{base:Heap}{cv:Nat→Value}{k:Nat}{x:Str}{st:Stmt}{f:Addr}{N ps:List Str}{τ:DS}(T:bq K mg x st f)(S:FnScope N ps (af st))
 (MQ:∀(kV doc pm:Value) (an:Option Addr) (bg ct:Value) (us:List Value),us.length=ps.length→bindArgs (PySem.W.fnOf x x (dN st) (aP st) (af st) .none kV doc pm an bg ct) ⟨us,[]⟩=pure (ps.zip us))
 (uq:∀(bg:Value) (A:Around) (outer:List Env) (s:Shared) (H:Hp) (E:XK),Room k (A.deeper (envOfC x (af st) s.heap.objs.size f bg))→
  PSDs (cT (iM P w cv) P w K mg base N x (af st) f bg A outer s H E) (fun n H'=>E (cv n) none H') (aP st) τ):ai P w K mg base cv (k+1) x ps.length (bU N.length τ):=by
 obtain⟨h1,fd,Fn⟩:=T
 exact⟨f,fd,ps,h1,Fn.kp,Fn.binds MQ,Im Fn S uq⟩
section
variable{X:Cx}{Xw:Nat→Hp→Prop}{a e:Expr}{δ:DE}{pos:Pos}
def GC:D→M D
 | .int i=>M.ret (.int (-i))
 |_=>M.stuck
theorem GQ(ha:PD X Xw a δ):PD X Xw (.UnaryOp .USub a pos) (d1 GC δ):=PE.weak (Jx HE ha) fun σ H Q ⟨F,ρ,s,w⟩=>by
 refine⟨F,ρ,s,WP.mono (WP.bind w) fun v H1 ⟨F1,d,e1,q,w1⟩=>?_⟩
 cases d with
 |int i=>
  have q:v= .int i:=q
  subst q
  exact⟨i,rfl,WP.now w1 e1.fh rfl⟩
 |_=>exact w1.elim
def Cf(put:D→aY→Option aY)(δ:DE):DS:=fun ρ=>δ ρ>>=fun d=>match put d ρ with
 |some ρ'=>M.ret (.nx ρ')
 |none=>M.stuck
theorem Ei{tg:Expr}{g:TG}{put:D→aY→Option aY}(he:PD X Xw e δ)(hg:PG X tg g)(A2:xo X.K g put)(hs:swapsWithSole [tg] e pos.line X.env=pure false:=by rfl)(hw:swappedStores [tg] e X.env=pure none:=by rfl)
 (h1:(assignEach [tg] X.env).map (·.2)=[assign tg X.env]:=by rfl):fE X Xw (.Assign [tg] e pos) (Cf put δ):=fun F₀ H₀=>PS.weak (k7 he hg hs hw h1) fun D σ H ⟨F,ρ,s,w⟩=>by
 refine⟨F,ρ,s.st,?_⟩
 unfold Cf at w
 match δ ρ,w with
 |none,w=>exact w
 |some (.ex n),w=>exact fun F' H' e'=>w F' H' (s.ext.trans e')
 |some (.ok d),w=>
  intro v H' F' e' q
  have w:WPS X.K Xw F₀ H₀ (match put d ρ with | some ρ'=>M.ret (.nx ρ') | none=>M.stuck) D:=w
  match hp:put d ρ,w with
  |none,w=>exact w.elim
  |some ρ',w=>exact A2 F₀ H₀ F' H' σ ρ ρ' d v _ (s.ext' e') q hp fun σ' s'=>w σ' F' H' s'
end
section
variable{X:Cx}{Xw:Nat→Hp→Prop}{pos:Pos}
theorem yl{x z:Str}(hg:Gl X x)(h:∃t,X.mg x=some (.str z t))(hz:z.length≤lim)(rT:(x==("__debug__":Str))=false:=by decide):PD X Xw (.Name x pos) (dC (.str z)):=by
 obtain⟨t,h⟩:=h
 exact yi (v:= .str z) hg h ⟨t,rfl⟩ (fun _=>⟨rfl,hz⟩) rT
theorem yj{x:Str}{i:Int}(hg:Gl X x)(h:∃t,X.mg x=some (.int i t))(rT:(x==("__debug__":Str))=false:=by decide):PD X Xw (.Name x pos) (dC (.int i)):=by
 obtain⟨t,h⟩:=h
 exact yi (v:= .int i) hg h ⟨t,rfl⟩ (fun _=>rfl) rT
end
def Eo(sc osc:Scope):Scope:={sc with names:=sc.names.map fun(n,k)=>if (k== .free&&osc.kind== .function&&osc.names.lookup n==some .cell) then(n, .cell) else(n,k)}
structure Box (p:Prop):Prop where
 out:p
section
variable{X:Cx}{Xw:Nat→Hp→Prop}{a:Expr}{δa:DE}{pos:Pos}
theorem cP{st:Stmt}{rest:List Stmt}{τ τ':DS}(h1:Box (fE X Xw st τ))(h2:Box (PSDs X Xw rest τ')):Box (PSDs X Xw (st::rest) (aG τ τ')):=⟨aq h1.out h2.out⟩
theorem Fv{st:Stmt}{τ:DS}(h1:Box (fE X Xw st τ)):Box (PSDs X Xw [st] τ):=⟨ao h1.out⟩
end
theorem J0{l:PySem.W.OpenLaw}{n k:Nat}{q:Program}{loose:List Str}{XP:(Str→Option Value)→Heap→Prop}{YP:World→Heap→Prop}{d:DefRec}{K:Params→W.Frag}{x:Str}{g:List D→M D}
 (hn:l.most=some n)(Ke:n≤lim)(IH:d.params.defaults=[])(hr:Room k callerA)
 (hY:∀(w:World) (h:Heap),YP w h→(K w.params).In h)(hg:∀ns:List Int,ns.length≤n→g [.scr ns]=M.ret (.bl true))
 (F:∀(w:World) (mg:Str→Option Value) (fa:Addr) (h:Heap),(K w.params).In h→h.Ns mainGlobals mg→mg d.name=some (.ref fa)→
  ∃(cv:Nat→Value) (fd:FuncData),(∀(s:Shared) (u:Value),BindsTo s fd ⟨[u],[]⟩ [(x,u)])∧
   ∀base:Heap,(K w.params).In base→base.Ns mainGlobals mg→FnOk l.prog w (K w.params) mg base (iM l.prog w cv) k fa fd [x] (HN (K w.params) cv 1 g)):
 PySem.W.WalkO q loose XP YP l.row.toRowW d [] (fun f vs=>PySem.call f vs):=by
 refine Att.attach_call hn IH fun w s₀ s₁ mg mb fa o pm cd doc a vs ns G Y ho hd xN F8 A0 hints hlen Oi=>?_
 have KX:=hY w _ Y
 obtain⟨cv,fd,hb,hF⟩:=F w mg fa _ KX G.T.g F8
 refine uz KX G.T.g G.T.b G.T.builtins G.T.nolimit Oi A0 hints (Nat.le_trans hlen (Nat.le_trans Ke (Nat.le_of_lt dH))) hr hF hb (fun H hO hS=>?_) fun H e s' z=>?_
 ·refine⟨H,[.scr ns],fun _ _ e=>e,⟨_,_,rfl,⟨a,rfl,hS,Nat.le_trans hlen Ke⟩,rfl⟩,rfl,?_⟩
  rw[hg ns hlen]
  exact fun v H' F' e q=>q
 ·obtain⟨_,_,_,_,_,_,_,_,_,_,_,_,_,_,y⟩:=z
theorem q9(n:Nat):(List.range n).map (fun k=>n - 1 - k)=(List.range n).reverse:=by
 apply List.ext_getElem
 ·simp
 ·intro i h1 h2
  simp at h1
  rw[List.getElem_reverse]
  simp
theorem uZ{α:Type}(xs:Array α):(List.range xs.size).reverse.filterMap (fun k=>xs[k]?)=xs.toList.reverse:=by
 rw[List.filterMap_reverse]
 congr 1
 have:∀n,n≤xs.size→(List.range n).filterMap (fun k=>xs[k]?)=xs.toList.take n:=by
  intro n
  induction n with
  |zero=>intro _;rfl
  |succ n ih=>
   intro h
   have e:xs[n]? =some xs[n]:=Array.getElem?_eq_getElem (by omega)
   rw[List.range_succ,List.filterMap_append,ih (by omega),List.take_add_one]
   simp[e]
 rw[this xs.size (Nat.le_refl _),←Array.length_toList,List.take_length]
theorem jD{α β:Type}{f g:α→Option β}:∀{l:List α},(∀x∈l,f x=g x)→l.filterMap f=l.filterMap g
 |[],_=>rfl
 |a::l,h=>by rw[List.filterMap_cons,List.filterMap_cons,h a (List.mem_cons_self ..),jD fun x hx=>h x (List.mem_cons_of_mem _ hx)]
theorem wR(n:Nat):sliceRange ((n:Int) - 1) (-1) (-1)=(List.range n).reverse:=by
 rw[←q9]
 unfold sliceRange
 have e1:¬((-1:Int)>0):=by omega
 simp only[e1,if_false]
 by_cases h:(n:Int) - 1> -1
 ·simp only[h,if_true]
  have e2:((((n:Int) - 1 - -1 - -1 - 1) / (- -1)).toNat)=n:=by
   have:(n:Int) - 1 - -1 - -1 - 1=n:=by omega
   rw[this]
   simp
  rw[e2]
  refine List.map_congr_left fun k hk=>?_
  have:=List.mem_range.mp hk
  omega
 ·simp only[h,if_false]
  have:n=0:=by omega
  subst this
  rfl
def sP(x:Str):Str:=⟨x.cps.toList.reverse.toArray⟩
theorem oP(x:Str):(sP x).length=x.length:=by
 show x.cps.toList.reverse.toArray.size=x.cps.size
 simp
section
variable{prog:Program}{w:World}{A:Around}{E:Value→Shared→Prop}{s:Shared}
theorem Bh(x:Str)(t u:Tok):sliceMade x t none none (some (-1,u))= .str (sP x):=by
 unfold sliceMade slicePicked
 have h:¬((((some ((-1:Int),u)).map (·.1)).getD 1==1&&(Builtin.Str.strSliceIndices none none (-1) x.length).length==x.length)=true):=by
  intro q
  rw[Bool.and_eq_true] at q
  exact absurd (show ((-1:Int)==1)=true from q.1) (by decide)
 have e:Builtin.Str.strSliceIndices none none (-1) x.length=(List.range x.length).reverse:=by
  unfold Builtin.Str.strSliceIndices
  exact wR x.length
 show (if ((((some ((-1:Int),u)).map (·.1)).getD 1==1&&(Builtin.Str.strSliceIndices none none (-1) x.length).length==x.length)=true) then Made.val (.str x t) else Made.str ⟨((Builtin.Str.strSliceIndices none none (-1) x.length).filterMap (x.cps[·]?)).toArray⟩)=_
 rw[if_neg h,e]
 show Made.str ⟨((List.range x.cps.size).reverse.filterMap (x.cps[·]?)).toArray⟩=_
 rw[uZ]
 rfl
theorem tO{sl:Addr}{u:Tok}{n:Nat}{Q:Int×Int×Nat→Shared→Prop}(hs:s.heap.IsSliceOf sl .none .none (.int (-1) u))(h:Q ((n:Int) - 1,-1,n) s):
 wpAny (model prog w) A (Builtin.Slice.sliceApplied (.ref sl) (pure (n:Int))) Q E s:=by
 obtain⟨os,uu,FU,yX⟩:=id hs
 unfold Builtin.Slice.sliceApplied Builtin.Slice.sliceFields
 refine wpAny_bind (wpAny_bind (wpAny_field uu yX (x:= .none) rfl (wpAny_bind (wpAny_field uu yX (x:= .none) rfl (wpAny_bind (wpAny_field uu yX (x:= .int (-1) u) rfl (wpAny_pure ?_)))))))
 refine wpAny_bind (slicePart_int ?_)
 show wpAny _ _ (if ((-1:Int)==0)=true then _ else _) _ _ s
 rw[if_neg (by decide)]
 refine wpAny_bind (slicePart_none (wpAny_bind (slicePart_none (wpAny_bind (wpAny_pure ?_)))))
 show wpAny _ _ (match Builtin.Slice.sliceAdjust none none (-1) (n:Int) with | (lo,hi)=>pure (lo,(-1:Int),Builtin.Slice.slicePlaces lo hi (-1))) _ _ s
 have e1:Builtin.Slice.sliceAdjust none none (-1) (n:Int)=((n:Int) - 1,-1):=rfl
 have e2:Builtin.Slice.slicePlaces ((n:Int) - 1) (-1) (-1)=n:=by
  unfold Builtin.Slice.slicePlaces
  have e1:¬((-1:Int)>0):=by omega
  simp only[e1,if_false]
  have e3:(- (-1:Int))=1:=by omega
  rw[e3,Int.ediv_one]
  split<;>omega
 rw[e1]
 show wpAny _ _ (pure ((n:Int) - 1,(-1:Int),Builtin.Slice.slicePlaces ((n:Int) - 1) (-1) (-1))) _ _ s
 rw[e2]
 exact wpAny_pure h
theorem jF{t sl:Addr}{items:Array Value}{u:Tok}{Q:Value→Shared→Prop}(ht:IsTup s.heap t items)(hs:s.heap.IsSliceOf sl .none .none (.int (-1) u))
 (h:Q (.ref s.heap.objs.size) {s with heap:=s.heap.push {cls:= .type "tuple",data:= .seq items.toList.reverse.toArray} })(hsz:items.size≤sizeLine):wpAny (model prog w) A (getItem (.ref t) (.ref sl)) Q E s:=by
 have hr:sizeOk (.seq items.toList.reverse.toArray):=by
  show items.toList.reverse.toArray.size≤sizeLine
  simpa using hsz
 obtain⟨os,uu,FU,yX⟩:=id hs
 have Iz:s.TypeIs (.ref sl) "slice":=⟨os,uu,FU⟩
 unfold getItem
 try with_reducible refine wpAny_holding ?_
 first | refine wpAny_bind (wpAny_pure ?_) | skip
 refine wpAny_bind (wpAny_sequenceKey ht.typeIs (by decide) ?_)
 refine wpAny_bind (wpAny_callSpecial?_slot (name:=Str.ofString "__getitem__") ht.typeIs PyProof.Rows.slot_tuple_getitem
  (wpAny_call_entry PyProof.Rows.slot_tuple_getitem ht.typeIs entry_tuple_getitem ?_ (args_tuple_getitem _ _)))
 show wpAny _ _ (Builtin.Tuple.tupleItemsOf (.ref t)>>=_) _ _ s
 refine wpAny_bind (tupleItemsOf_ ht ?_)
 refine wpAny_bind (wpAny_typeOf Iz ?_)
 rw[if_pos (by decide)]
 refine wpAny_bind (tO hs ?_)
 have nB:¬((((items.size:Int) - 1)==0&&(-1:Int)==1&&items.size==items.size)=true):=by
  intro q
  rw[Bool.and_eq_true,Bool.and_eq_true] at q
  exact absurd q.1.2 (by decide)
 show wpAny _ _ (if (((items.size:Int) - 1)==0&&(-1:Int)==1&&items.size==items.size)=true then _ else _) _ _ s
 rw[if_neg nB]
 have e:((List.range items.size).filterMap fun(m:Nat)=>items[(((items.size:Int) - 1)+(m:Int)*(-1)).toNat]?).toArray=items.toList.reverse.toArray:=by
  rw[←uZ,←q9,List.filterMap_map]
  congr 1
  refine jD fun k hk=>?_
  have:=List.mem_range.mp hk
  have q:(((items.size:Int) - 1)+(k:Int)*(-1)).toNat=items.size - 1 - k:=by omega
  rw[q]
  rfl
 rw[e]
 first
  |exact wpAny_bind (m:=Builtin.Tuple.tupleExact _) (wpAny_newObj_type (wpAny_pure ⟨_,rfl,wpAny_pure h⟩) hr)
  |exact wpAny_bind (m:=Builtin.Tuple.tupleExact _) (wpAny_newObj_type (wpAny_bind (wpAny_pure (wpAny_pure ⟨_,rfl,wpAny_pure h⟩))) hr)
  |exact wpAny_bind (wpAny_bind (m:=Builtin.Tuple.tupleExact _) (wpAny_newObj_type (wpAny_pure (wpAny_pure ⟨_,rfl,wpAny_pure h⟩)) hr))
  |exact wpAny_bind (wpAny_bind (m:=Builtin.Tuple.tupleExact _) (wpAny_newObj_type (wpAny_pure ⟨_,rfl,wpAny_pure h⟩) hr))
end
section
variable{X:Cx}{Xw:Nat→Hp→Prop}{e HI:Expr}{te ts:TE}{δ δs:DE}{pos p2:Pos}
def Mu(X:Cx)(r:V→Hp→VK→Prop):Prop:=
 ∀(pins:List (Addr×Obj)) (s:Shared) (σ:St) (H:Hp) (x:V) (v:Value) (u:Tok) (sl:Addr) (Q:VK),Inv X pins σ H s→RelV x v→s.heap.IsSliceOf sl .none .none (.int (-1) u)→r x H Q→
  ∃T id,typeLookup (.type T) "__getitem__"=pure (some (.builtin id))∧s.TypeIs v T∧wpAny (model X.prog X.w) X.A (getItem v (.ref sl)) (EP X pins σ Q) X.xe s
theorem G3{r:V→Hp→VK→Prop}(hr:Mu X r)(he:PE X e te)(hs:PE X HI ts):PE X (.Subscript e (.Slice none none (some HI) p2) pos) (fun σ H Q=>te σ H fun x H1=>ts σ H1 fun y H2=>y= .int (-1)∧r x H2 Q):=by
 intro pins s σ H Q I h
 refine Subscript_ (bG (he pins s σ H _ I h) fun v s1 ⟨x,H1,I1,r1,q1⟩=>?_)
 refine wpAny_Slice ?_
 rw[evalPart_none]
 refine wpAny_pure (wpAny_pure ?_)
 rw[evalPart_some]
 refine bG (hs pins s1 σ H1 _ I1 q1) fun vs s3 ⟨y,H3,I3,ry,q3⟩=>?_
 obtain⟨rfl,q3⟩:=q3
 obtain⟨u,rfl⟩:=ry
 have I4:Inv X pins σ H3 {s3 with heap:=s3.heap.push {cls:= .type "slice",data:= .fields #[.none, .none, .int (-1) u]} }:=I3.kept (t':=s3.toks) fun b ob q=>Heap.get?_push_of_some _ q
 obtain⟨T,id,hT,ht,hg⟩:=hr pins {s3 with heap:=s3.heap.push {cls:= .type "slice",data:= .fields #[.none, .none, .int (-1) u]} } σ H3 x v u s3.heap.objs.size Q I4 r1 (Heap.IsSliceOf.new ..) q3
 show wpAny (model X.prog X.w) X.A (subscriptTail e (.Slice none none (some HI) p2) v (.ref s3.heap.objs.size)) (EP X pins σ Q) X.xe {s3 with heap:=s3.heap.push {cls:= .type "slice",data:= .fields #[.none, .none, .int (-1) u]} }
 exact tail_any (ops:=[v, .ref s3.heap.objs.size]) ht hT hg (by with_unfolding_all rfl)
def L8(K:W.Frag):V→Hp→VK→Prop:=fun x H Q=>(∃z:Str,x= .str z∧z.length≤lim∧Q (.str (sP z)) H)∨∃a xs,x= .ref a∧SqT K H a xs∧∀p,H p=none→Q (.ref p) (upd H p (.tup xs.reverse))
theorem Hj:Mu X (L8 X.K):=by
 intro pins s σ H x v u sl Q I rx hs h
 rcases h with⟨z,rfl,hl,q⟩ | ⟨a,xs,rfl,hx,q⟩
 ·obtain⟨t,rfl⟩:=rx
  refine⟨"str",_,PySem.F.slot_str_getitem.lookup,typeIs_str _ _ _,wpAny_getItem_str_slice (l:=none) (u:=none) (st:=some (-1,u)) hs rfl ?_⟩
  rw[Bh]
  exact⟨by rw[oP];have:=dH;omega,⟨.str _,H,I.tok _,⟨_,rfl⟩,q⟩⟩
 ·cases rx
  obtain⟨aF,r,ht,hz⟩:=I.tuple hx
  have hlen:=r.length
  refine⟨"tuple",_,PyProof.Rows.slot_tuple_getitem.lookup,ht.typeIs,jF ht hs ?_ (by rw[List.size_toArray];omega)⟩
  refine⟨.ref s.heap.objs.size,_,I.laid (t':=s.toks) (o:= .tup xs.reverse) (fun b ob q=>Heap.get?_push_of_some _ q) (Nat.le_refl _) ?_,rfl,q _ (I.hok.fresh (Nat.le_refl _))⟩
  exact⟨by rw[List.length_reverse];exact hz,_,r.reverse,⟨_,Heap.get?_push_size _ rfl,rfl,by simp⟩⟩
def JK:D→M D
 | .str x=>M.ret (.str (sP x))
 | .tup ds=>M.ret (.tup ds.reverse)
 |_=>M.stuck
def Fx(a st:DE):DE:=fun ρ=>a ρ>>=fun d=>st ρ>>=fun k=>match k with
 | .int i=>if i= -1 then JK d else M.stuck
 |_=>M.stuck
theorem GV(he:PD X Xw e δ)(hs:PD X Xw HI δs):PD X Xw (.Subscript e (.Slice none none (some HI) p2) pos) (Fx δ δs):=
 PE.weak (G3 Hj he hs) fun σ H Q ⟨F,ρ,s,w⟩=>by
  refine⟨F,ρ,s,WP.mono (WP.bind w) fun v H1 ⟨F1,d,e1,q1,w1⟩=>?_⟩
  refine⟨F1,ρ,s.ext e1,WP.mono (WP.bind w1) fun y H2 ⟨F2,k,e2,q2,w2⟩=>?_⟩
  have q3:=Den.mono e2.ff q1
  cases k with
  |int i=>
   have w2:WP X.K Xw F2 H2 (if i= -1 then JK d else M.stuck) Q:=w2
   split at w2
   ·rename_i hi
    subst hi
    refine⟨q2,?_⟩
    cases d with
    |str x=>exact .inl ⟨x,q3.1,q3.2,WP.now w2 e2.fh ⟨rfl,by rw[oP];exact q3.2⟩⟩
    |tup ds=>
     obtain⟨a,vs,rfl,h2,h3,h4⟩:=q3
     exact .inr ⟨a,vs,rfl,SqT.of (e2.fh _ _ h2),fun p hp=>WP.fin w2 (Ext.lay e2.fh hp) ⟨p,_,rfl,az,DenL.mono (Ext.lay e2.fh hp).ff h3.reverse,by rw[List.length_reverse];exact h4⟩⟩
    |_=>exact w2.elim
   ·exact w2.elim
  |_=>exact w2.elim
variable{o:Expr}{δo:DE}{δl:DA}{apos a6:Pos}
end
namespace RV
end RV
def IsTupRev(h:Heap)(it t:Addr)(i:Int):Prop:=∃o,h.get? it=some o∧o.cls= .type "reversed"∧o.data= .fields #[.ref t,rawInt i]
section
variable{prog:Program}{w:World}{A:Around}{E:Value→Shared→Prop}{s:Shared}
theorem IsTupRev.typeIs{it t:Addr}{i:Int}(x:IsTupRev s.heap it t i):s.TypeIs (.ref it) "reversed":=let ⟨o,ho,hc,_⟩:=x;⟨o,ho,hc⟩
end
section
variable{X:Cx}{Xw:Nat→Hp→Prop}{tg e:Expr}{es:List Expr}{δ δi:DE}{δs:DA}{pos p:Pos}
end
end L3
namespace L3
open PySem PySem.Spec L2 SeqAt HT
open PyProof.Rows hiding St
def nQ:D→Option Key
 | .int i=>some (.inl i)
 | .str x=>some (.inr x)
 |_=>none
def r6:List D→Option (List Key)
 |[]=>some []
 |d::ds=>match nQ d,r6 ds with
  |some k,some ks=>some (k::ks)
  |_,_=>none
def eM:D→Option (List Key)
 | .tup ds=>r6 ds
 |_=>none
theorem gU{K:W.Frag}{F:Hp}{d:D}{v:V}{k:Key}(e:nQ d=some k)(h:Den K F d v):v=kV k:=by
 cases d<;>first | cases e | skip
 ·exact h
 ·exact h.1
theorem gW{K:W.Frag}{F:Hp}:∀{ds:List D}{vs:List V}{ks:List Key},r6 ds=some ks→DenL K F ds vs→vs=ks.map kV
 |[],_,_,e,h=>by cases e;exact h
 |d::ds,_,_,e,⟨v,r,h1,h2,h3⟩=>by
  unfold r6 at e
  split at e
  ·rename_i k ks e1 e2
   cases e
   subst h1
   rw[List.map_cons,gU e1 h2,gW e2 h3]
  ·cases e
section
variable{κ:Type}[DecidableEq κ]
def d4:List κ→List D→κ→Option D
 |k'::ks,d::ds,k=>if k'=k then some d else d4 ks ds k
 |_,_,_=>none
def mG:List κ→List D→κ→D→List D
 |k'::ks,d'::ds,k,d=>(if k'=k then d else d')::mG ks ds k d
 |_,_,_,_=>[]
theorem km{K:W.Frag}{F:Hp}:∀{ks:List κ}{ds:List D}{vs:List V}(k:κ),DenL K F ds vs→ks.length=ds.length→
 (match d4 ks ds k with | some d=>∃v,kq (ks.zip vs) k=some v∧Den K F d v | none=>kq (ks.zip vs) k=none)
 |[],[],_,_,_,_=>rfl
 |k'::ks,d::ds,_,k,⟨v,r,h1,h2,h3⟩,hl=>by
  subst h1
  unfold d4
  rw[List.zip_cons_cons]
  by_cases e:k'=k
  ·rw[if_pos e,ku (p:=(k',v)) e]
   exact⟨v,rfl,h2⟩
  ·rw[if_neg e,kr (p:=(k',v)) e]
   exact km k h3 (by simpa using hl)
 |[],_::_,_,_,_,hl=>by simp at hl
 |_::_,[],_,_,_,hl=>by simp at hl
theorem ir{K:W.Frag}{F:Hp}{ks:List κ}{ds:List D}{vs:List V}(k:κ)(h:DenL K F ds vs)(hl:ks.length=ds.length):(kq (ks.zip vs) k).isSome=(d4 ks ds k).isSome:=by
 have:=km k h hl
 split at this
 ·rename_i d e
  obtain⟨v,e1,_⟩:=this
  rw[e1,e];rfl
 ·rename_i e
  rw[this,e]
  rfl
theorem u9{K:W.Frag}{F:Hp}{d:D}{v:V}(hd:Den K F d v):∀{ks:List κ}{ds:List D}{vs:List V}(k:κ),DenL K F ds vs→ks.length=ds.length→
 ∃ws,(ks.zip vs).map (fun kv=>if kv.1=k then(kv.1,v) else kv)=ks.zip ws∧DenL K F (mG ks ds k d) ws
 |[],[],_,_,h,_=>⟨[],rfl,rfl⟩
 |k'::ks,d'::ds,_,k,⟨v',r,h1,h2,h3⟩,hl=>by
  subst h1
  obtain⟨ws,e1,e2⟩:=u9 hd k h3 (by simpa using hl)
  by_cases e:k'=k
  ·refine⟨v::ws,?_,?_⟩
   ·rw[List.zip_cons_cons,List.map_cons,e1,if_pos e];rfl
   ·unfold mG;rw[if_pos e];exact .cons hd e2
  ·refine⟨v'::ws,?_,?_⟩
   ·rw[List.zip_cons_cons,List.map_cons,e1,if_neg e];rfl
   ·unfold mG;rw[if_neg e];exact .cons h2 e2
 |[],_::_,_,_,_,hl=>by simp at hl
 |_::_,[],_,_,_,hl=>by simp at hl
theorem hX:∀(ks:List κ) (ds:List D) (k:κ) (d:D),ks.length=ds.length→(mG ks ds k d).length=ds.length
 |[],[],_,_,_=>rfl
 |_::ks,_::ds,k,d,h=>by unfold mG;rw[List.length_cons,List.length_cons,hX ks ds k d (by simpa using h)]
 |[],_::_,_,_,h=>by simp at h
 |_::_,[],_,_,h=>by simp at h
def cW(ks:List κ)(ds:List D)(k:κ):List κ:=if (d4 ks ds k).isSome then ks else ks++[k]
def b8(ks:List κ)(ds:List D)(k:κ)(d:D):List D:=if (d4 ks ds k).isSome then mG ks ds k d else ds++[d]
theorem sJ{K:W.Frag}{F:Hp}{d:D}{v:V}(hd:Den K F d v){ks:List κ}{ds:List D}{vs:List V}(k:κ)(h:DenL K F ds vs)(hl:ks.length=ds.length):
 ∃ws,putK (ks.zip vs) k v=(cW ks ds k).zip ws∧DenL K F (b8 ks ds k d) ws∧(cW ks ds k).length=(b8 ks ds k d).length:=by
 have hs:=ir (K:=K) (F:=F) k h hl
 unfold putK cW b8
 have ha:((ks.zip vs).any fun kv=>decide (kv.1=k))=(kq (ks.zip vs) k).isSome:=o9 ..
 rw[ha,hs]
 cases e:(d4 ks ds k).isSome with
 |true=>
  rw[if_pos rfl,if_pos rfl,if_pos rfl]
  obtain⟨ws,e1,e2⟩:=u9 hd k h hl
  exact⟨ws,e1,e2,by rw[hX ks ds k d hl];exact hl⟩
 |false=>
  rw[if_neg Bool.false_ne_true,if_neg Bool.false_ne_true,if_neg Bool.false_ne_true]
  refine⟨vs++[v],?_,h.append (.cons hd .nil),by simp[hl]⟩
  rw[List.zip_append (by rw[hl];exact h.len)]
  rfl
end
theorem tE{κ:Type}{K:W.Frag}{F:Hp}{ks:List κ}{ds:List D}{vs:List V}(h:DenL K F ds vs)(hl:ks.length=ds.length):(ks.zip vs).length=ds.length:=by
 rw[List.length_zip,hl,←h.len];omega
def oY(ρ:aY)(i:Nat):Option D:=match ρ[i]? with
 |some (some (.fz d))=>some d
 |some (some (.ow c))=>some c.d
 |_=>none
theorem Cv{K:W.Frag}{F H:Hp}{σ:St}{ρ:aY}{i:Nat}{ks:List (List Key)}{ds:List D}(s:StE K F H σ ρ)(e:oY ρ i=some (.dct ks ds)):
 ∃a vs,σ[i]? =some (some (.ref a))∧Rd H a (.dT (ks.zip vs))∧DenL K F ds vs∧ks.length=ds.length∧ds.length≤lim:=by
 unfold oY at e
 split at e
 ·rename_i d e1
  cases e
  obtain⟨v,h1,a,ob,vs,rfl,h2,h3,h4,h5⟩:=s.den i _ e1
  exact⟨a,vs,h1, .inr ⟨ob,s.fh _ _ h2⟩,h3,h4,h5⟩
 ·rename_i c e1
  cases c<;>cases e
  obtain⟨v,h1,a,o,rfl,h2,_,vs,rfl,h3,h4,h5⟩:=s.den i _ e1
  exact⟨a,vs,h1, .inl h2,h3,h4,h5⟩
 ·cases e
theorem Cu{K:W.Frag}{F H:Hp}{σ:St}{ρ:aY}{i:Nat}{ks:List Key}{ds:List D}(s:StE K F H σ ρ)(e:oY ρ i=some (.dci ks ds)):
 ∃a vs,σ[i]? =some (some (.ref a))∧Rd H a (.dK (ks.zip vs))∧DenL K F ds vs∧ks.length=ds.length∧ds.length≤lim:=by
 unfold oY at e
 split at e
 ·rename_i d e1
  cases e
  obtain⟨v,h1,a,ob,vs,rfl,h2,h3,h4,h5⟩:=s.den i _ e1
  exact⟨a,vs,h1, .inr ⟨ob,s.fh _ _ h2⟩,h3,h4,h5⟩
 ·rename_i c e1
  cases c<;>cases e
  obtain⟨v,h1,a,o,rfl,h2,_,vs,rfl,h3,h4,h5⟩:=s.den i _ e1
  exact⟨a,vs,h1, .inl h2,h3,h4,h5⟩
 ·cases e
def CU:D→D→Option (Option D)
 | .dct ks ds,k=>(eM k).map (d4 ks ds)
 | .dci ks ds,k=>(nQ k).map (d4 ks ds)
 |_,_=>none
theorem xu{K:W.Frag}{F H:Hp}{σ:St}{ρ:aY}{i:Nat}{d k:D}{y:V}{o:Option D}(s:StE K F H σ ρ)(hi:oY ρ i=some d)(hk:Den K F k y)(e:CU d k=some o):
 ∃a ov,σ[i]? =some (some (.ref a))∧mx H a y ov∧ov.isSome=o.isSome∧∀d',o=some d'→∃v,ov=some v∧Den K F d' v:=by
 unfold CU at e
 split at e
 ·rename_i ks ds
  cases q:eM k with
  |none=>rw[q] at e;cases e
  |some kk=>
   rw[q] at e
   cases e
   obtain⟨a,vs,h1,h2,h3,h4,h5⟩:=Cv s hi
   unfold eM at q
   split at q
   ·rename_i es
    obtain⟨b,ws,rfl,k2,k3,_⟩:=hk
    have e1:=gW q k3
    subst e1
    refine⟨a,_,h1, .inr ⟨_,kk,b,h2,rfl,s.fh _ _ k2,rfl⟩,ir kk h3 h4,fun d' pk=>?_⟩
    have:=km (K:=K) (F:=F) kk h3 h4
    rw[pk] at this
    exact this
   ·cases q
 ·rename_i ks ds
  cases q:nQ k with
  |none=>rw[q] at e;cases e
  |some kk=>
   rw[q] at e
   cases e
   obtain⟨a,vs,h1,h2,h3,h4,h5⟩:=Cu s hi
   have e1:=gU q hk
   subst e1
   refine⟨a,_,h1, .inl ⟨_,kk,h2,rfl,rfl⟩,ir kk h3 h4,fun d' pk=>?_⟩
   have:=km (K:=K) (F:=F) kk h3 h4
   rw[pk] at this
   exact this
 ·cases e
section
variable{X:Cx}{Xw:Nat→Hp→Prop}{a b:Expr}{δa δb:DE}{pos:Pos}
end
section
variable{X:Cx}{Xw:Nat→Hp→Prop}{a e:Expr}{δ δk δv:DE}{pos p pos' sI apos a6:Pos}{x:Str}{i:Nat}
def Ic(neg:Bool)(i:Nat)(δ:DE):DE:=fun ρ=>δ ρ>>=fun k=>match oY ρ i with
 |some d=>match CU d k with
  |some o=>M.ret (.bl (if neg then !o.isSome else o.isSome))
  |none=>M.stuck
 |none=>M.stuck
theorem Gj{neg:Bool}{σ:St}{H:Hp}{Q:VK}(h:tD X.K Xw (Ic neg i δ) σ H Q):(fun σ H Q=>tD X.K Xw δ σ H fun y H1=>o4 i σ H1 fun x H2=>∃a o,x= .ref a∧mx H2 a y o∧Q (.bl (if neg then !o.isSome else o.isSome)) H2) σ H Q:=by
 obtain⟨F,ρ,s,w⟩:=h
 refine⟨F,ρ,s,WP.mono (WP.bind w) fun y H1 ⟨F1,k,e1,q1,w1⟩=>?_⟩
 have s1:=s.ext e1
 cases hi:oY ρ i with
 |none=>rw[hi] at w1;exact w1.elim
 |some d=>
  rw[hi] at w1
  have w1:WP X.K Xw F1 H1 (match CU d k with | some o=>M.ret (.bl (if neg then !o.isSome else o.isSome)) | none=>M.stuck) Q:=w1
  cases he:CU d k with
  |none=>rw[he] at w1;exact w1.elim
  |some o=>
   rw[he] at w1
   obtain⟨a,ov,h1,h2,h3,_⟩:=xu s1 hi q1 he
   refine⟨.ref a,h1,a,ov,rfl,h2,?_⟩
   rw[h3]
   exact WP.now w1 e1.fh rfl
theorem L6(hu:X.A.units+64<cLine)(ha:PD X Xw a δ)(hv:PE X (.Name x p) (o4 i))(hm:behindInMarks .In (.Name x p)=false:=by rfl):PD X Xw (.Compare a [.In] [.Name x p] pos) (Ic false i δ):=
 PE.weak (GY (GL (by omega) ha hv) hm) fun σ H Q h=>Gj (neg:=false) h
def Cm(i:Nat):DS:=fun ρ=>M.ret (.nx (ρ.set i (some (.ow (.dct [] [])))))
def Fi(i:Nat):DS:=fun ρ=>M.ret (.nx (ρ.set i (some (.ow (.dci [] [])))))
theorem u0(hN:X.N.Nodup)(hi:X.N[i]? =some x)(hx:Loc X.env.scope x)(hf:X.fn x=true∨X.env.scope.names.lookup x=some .local:=by first | exact .inl rfl | exact .inr rfl):
 fE X Xw (.Assign [.Name x pos'] (.Dict [] [] sI) pos) (Cm i):=fun F₀ H₀=>PS.weak (k7 BU (ba hN hi hx hf) rfl) fun D σ H ⟨F,ρ,s,w⟩=>fun q hq=>
 w _ F _ (s.setNew (c₀:= .dct [] []) hq ⟨[],rfl,rfl,rfl,Nat.zero_le _⟩)
theorem BZ(hN:X.N.Nodup)(hi:X.N[i]? =some x)(hx:Loc X.env.scope x)(hf:X.fn x=true∨X.env.scope.names.lookup x=some .local:=by first | exact .inl rfl | exact .inr rfl):
 fE X Xw (.Assign [.Name x pos'] (.Dict [] [] sI) pos) (Fi i):=fun F₀ H₀=>PS.weak (k7 BS (ba hN hi hx hf) rfl) fun D σ H ⟨F,ρ,s,w⟩=>fun q hq=>
 w _ F _ (s.setNew (c₀:= .dci [] []) hq ⟨[],rfl,rfl,rfl,Nat.zero_le _⟩)
def j8:C→D→D→Option C
 | .dct ks ds,k,d=>match eM k with
   |some kk=>if ds.length<lim then some (.dct (cW ks ds kk) (b8 ks ds kk d)) else none
   |none=>none
 | .dci ks ds,k,d=>match nQ k with
   |some kk=>if ds.length<lim then some (.dci (cW ks ds kk) (b8 ks ds kk d)) else none
   |none=>none
 |_,_,_=>none
def zB(ρ:aY)(i:Nat):Option C:=match ρ[i]? with
 |some (some (.ow c))=>some c
 |_=>none
theorem qK{ρ:aY}{i:Nat}{c:C}(h:zB ρ i=some c):ρ[i]? =some (some (.ow c)):=by
 unfold zB at h
 split at h
 ·rename_i c' e
  cases h
  exact e
 ·cases h
def ma(i:Nat)(δk δv:DE):DS:=fun ρ=>match zB ρ i with
 |some c=>δv ρ>>=fun v=>δk ρ>>=fun k=>match j8 c k v with
  |some c'=>M.ret (.nx (ρ.set i (some (.ow c'))))
  |none=>M.stuck
 |none=>M.stuck
theorem qX{κ:Type}[DecidableEq κ]{ks:List κ}{ds:List D}{k:κ}{d:D}(hl:ks.length=ds.length)(h:ds.length<lim):(b8 ks ds k d).length≤lim:=by
 unfold b8
 split
 ·rw[hX ks ds k d hl];omega
 ·rw[List.length_append];exact h
theorem B5{K:W.Frag}{F H:Hp}{c c':C}{k d:D}{y v:V}{o:HO}{b:Addr}(hs:Same F H)(hb:H b=some o)(hc:DenC K F c o)(hk:Den K F k y)(hd:Den K F d v)(e:j8 c k d=some c'):∃o',DPut H b y v (upd H b o')∧DenC K F c' o':=by
 have IP:=dH
 unfold j8 at e
 split at e
 ·rename_i ks ds k d
  obtain⟨vs,rfl,h3,h4,h5⟩:=hc
  split at e
  ·rename_i kk q
   split at e
   ·rename_i dP
    cases e
    unfold eM at q
    split at q
    ·rename_i es
     obtain⟨b2,ws,rfl,k2,k3,_⟩:=hk
     have e1:=gW q k3
     subst e1
     obtain⟨us,e2,e3,e4⟩:=sJ hd kk h3 h4
     refine⟨_,DPut.t hb (hs _ _ k2) (by rw[tE h3 h4];omega),us,?_,e3,e4,qX h4 dP⟩
     rw[e2]
    ·cases q
   ·cases e
  ·cases e
 ·rename_i ks ds k d
  obtain⟨vs,rfl,h3,h4,h5⟩:=hc
  split at e
  ·rename_i kk q
   split at e
   ·rename_i dP
    cases e
    have e1:=gU q hk
    subst e1
    obtain⟨us,e2,e3,e4⟩:=sJ hd kk h3 h4
    refine⟨_,DPut.k hb (by rw[tE h3 h4];omega),us,?_,e3,e4,qX h4 dP⟩
    rw[e2]
   ·cases e
  ·cases e
 ·cases e
theorem oJ(hu:X.A.units+64<cLine)(hv:PE X (.Name x p) (o4 i))(hk:PD X Xw a δk)(he:PD X Xw e δv)(hs:swapsWith e (some (.Subscript (.Name x p) a pos')) pos.line X.env=pure false:=by rfl):
 fE X Xw (.Assign [.Subscript (.Name x p) a pos'] e pos) (ma i δk δv):=fun F₀ H₀=>PS.weak (Eh (by omega) hv hk he hs) fun D σ H ⟨F,ρ,s,w⟩=>by
 unfold ma at w
 cases ho:zB ρ i with
 |none=>rw[ho] at w;exact w.elim
 |some c=>
  rw[ho] at w
  have hi:=qK ho
  have w:WPS X.K Xw F₀ H₀ (δv ρ>>=fun v=>δk ρ>>=fun k=>match j8 c k v with | some c'=>M.ret (.nx (ρ.set i (some (.ow c')))) | none=>M.stuck) D:=w
  refine⟨F,ρ,s.st,?_⟩
  rcases(δv ρ).cs with q | ⟨n,q⟩ | ⟨dv,q⟩
  ·rw[q] at w;exact w.elim
  ·rw[q] at w⊢;exact fun F' H' e'=>w F' H' (s.ext.trans e')
  ·rw[q] at w⊢
   intro v H1 F1 e1 hq
   have s1:=s.ext' e1
   obtain⟨u,h1,b,o,rfl,h2,h3,h4⟩:=s1.st.den i _ hi
   have w:WPS X.K Xw F₀ H₀ (δk ρ>>=fun k=>match j8 c k dv with | some c'=>M.ret (.nx (ρ.set i (some (.ow c')))) | none=>M.stuck) D:=w
   refine⟨.ref b,h1,F1,ρ,s1.st,?_⟩
   rcases(δk ρ).cs with q2 | ⟨n,q2⟩ | ⟨dk,q2⟩
   ·rw[q2] at w;exact w.elim
   ·rw[q2] at w⊢;exact fun F' H' e'=>w F' H' (s1.ext.trans e')
   ·rw[q2] at w⊢
    intro y H2 F2 e2 hy
    have w:WPS X.K Xw F₀ H₀ (match j8 c dk dv with | some c'=>M.ret (.nx (ρ.set i (some (.ow c')))) | none=>M.stuck) D:=w
    cases hp:j8 c dk dv with
    |none=>rw[hp] at w;exact w.elim
    |some c'=>
     rw[hp] at w
     have s2:=s1.ext' e2
     obtain⟨u2,k1,b2,o2,IE,k2,k3,k4⟩:=s2.st.den i _ hi
     rw[h1] at k1
     cases k1
     cases IE
     obtain⟨o',g,hc⟩:=B5 s2.st.fh k2 k4 hy (Den.mono e2.ff hq) hp
     exact⟨b,_,rfl,g,w σ F2 _ (s2.chg hi h1 hc)⟩
end
def d7(c:DT)(body:DS):Nat→DS
 |0,_=>M.stuck
 |n+1,ρ=>c ρ>>=fun b=>if b then body ρ>>=fun o=>match o with | .nx ρ'=>d7 c body n ρ' | .rt d=>M.ret (.rt d) else M.ret (.nx ρ)
def Co(c:DT)(body:DS):DS:=fun ρ=>d7 c body lim ρ
section
variable{X:Cx}{Xw:Nat→Hp→Prop}{τ:DS}{tc:DT}{pos:Pos}
theorem zK{c:Expr}{body:List Stmt}(hp:PassesOwn (model X.prog X.w) X.A X.env X.xe)(hc:rp X Xw c tc)(hb:PSDs X Xw body τ):fE X Xw (.While c body [] pos) (Co tc τ):=fun F₀ H₀=>PS.weak (BX hp hc hb.ex) fun D σ H ⟨F,ρ,s,w⟩=>by
 refine⟨fun m σ H=>∃F ρ,StOk X.K F₀ H₀ F H σ ρ∧WPS X.K Xw F₀ H₀ (d7 tc τ m ρ) D,⟨lim,F,ρ,s,w⟩,?_⟩
 rintro m σ H ⟨F,ρ,s,w⟩
 cases m with
 |zero=>exact w.elim
 |succ m=>
  refine⟨F,ρ,s.st,?_⟩
  unfold d7 at w
  match tc ρ,w with
  |none,w=>exact w
  |some (.ex n),w=>exact fun F' H' e'=>w F' H' (s.ext.trans e')
  |some (.ok false),w=>exact fun H' F' e'=>w σ F' H' (s.ext' e')
  |some (.ok true),w=>
   intro H' F' e'
   have w:WPS X.K Xw F₀ H₀ (τ ρ>>=fun o=>match o with | .nx ρ'=>d7 tc τ m ρ' | .rt d=>M.ret (.rt d)) D:=w
   refine⟨fun σ' H'=>∃F' ρ',StOk X.K F₀ H₀ F' H' σ' ρ'∧WPS X.K Xw F₀ H₀ (d7 tc τ m ρ') D,fun σ' H' h=>⟨m,Nat.lt_succ_self m,h⟩,F₀,H₀,F',ρ,s.ext' e',?_⟩
   match τ ρ,w with
   |none,w=>exact w
   |some (.ok (.nx ρ')),w=>exact fun σ' F' H' s'=>⟨F',ρ',s',w⟩
   |some (.ok (.rt d)),w=>exact w
   |some (.ex n),w=>exact w
end
def jK:List D→Option (List (List Key))
 |[]=>some []
 |d::ds=>match eM d,jK ds with
  |some k,some ks=>some (k::ks)
  |_,_=>none
theorem FC:∀{x y:D}{k k':Key}{n:Nat},nQ x=some k→nQ y=some k'→jz n x y=some (decide (k=k'))
 | .int i, .int j,_,_,n,e1,e2=>by
   cases e1;cases e2
   have:jz n (.int i) (.int j)=some (i==j):=by cases n<;>rfl
   rw[this]
   congr 1
   by_cases h:i=j
   ·subst h;simp
   ·simp[h]
 | .str x, .str y,_,_,n,e1,e2=>by
   cases e1;cases e2
   have:jz n (.str x) (.str y)=some (x==y):=by cases n<;>rfl
   rw[this]
   congr 1
   by_cases h:x=y
   ·subst h;simp
   ·simp[h]
 | .int i, .str y,_,_,n,e1,e2=>by
   cases e1;cases e2
   have:jz n (.int i) (.str y)=some false:=by cases n<;>rfl
   rw[this]
   simp
 | .str x, .int j,_,_,n,e1,e2=>by
   cases e1;cases e2
   have:jz n (.str x) (.int j)=some false:=by cases n<;>rfl
   rw[this]
   simp
 | .non,_,_,_,_,e1,_=>by cases e1
 | .bl _,_,_,_,_,e1,_=>by cases e1
 | .raw _,_,_,_,_,e1,_=>by cases e1
 | .exc _,_,_,_,_,e1,_=>by cases e1
 | .scr _,_,_,_,_,e1,_=>by cases e1
 | .tup _,_,_,_,_,e1,_=>by cases e1
 | .lst _,_,_,_,_,e1,_=>by cases e1
 | .dct _ _,_,_,_,_,e1,_=>by cases e1
 | .dci _ _,_,_,_,_,e1,_=>by cases e1
 |_, .non,_,_,_,_,e2=>by cases e2
 |_, .bl _,_,_,_,_,e2=>by cases e2
 |_, .raw _,_,_,_,_,e2=>by cases e2
 |_, .exc _,_,_,_,_,e2=>by cases e2
 |_, .scr _,_,_,_,_,e2=>by cases e2
 |_, .tup _,_,_,_,_,e2=>by cases e2
 |_, .lst _,_,_,_,_,e2=>by cases e2
 |_, .dct _ _,_,_,_,_,e2=>by cases e2
 |_, .dci _ _,_,_,_,_,e2=>by cases e2
theorem xG{n:Nat}:∀{xs ys:List D}{k k':List Key},r6 xs=some k→r6 ys=some k'→nv (jz n) xs ys=some (decide (k=k'))
 |[],[],_,_,e1,e2=>by cases e1;cases e2;rfl
 |x::xs,[],_,_,e1,e2=>by
  cases e2
  unfold r6 at e1
  split at e1
  ·cases e1;simp[nv]
  ·cases e1
 |[],y::ys,_,_,e1,e2=>by
  cases e1
  unfold r6 at e2
  split at e2
  ·cases e2;simp[nv]
  ·cases e2
 |x::xs,y::ys,_,_,e1,e2=>by
  unfold r6 at e1 e2
  split at e1
  ·rename_i k ks q1 q2
   cases e1
   split at e2
   ·rename_i k' ks' q3 q4
    cases e2
    unfold nv
    rw[FC q1 q3,xG q2 q4]
    simp
   ·cases e2
  ·cases e1
theorem Dp{x y:D}{k k':List Key}{n:Nat}(e1:eM x=some k)(e2:eM y=some k'):jz (n+1) x y=some (decide (k=k')):=by
 cases x with
 |tup xs=>
  cases y with
  |tup ys=>exact xG (n:=n) e1 e2
  |_=>cases e2
 |_=>cases e1
theorem Bb{K:W.Frag}{F:Hp}{d:D}{v:V}{k:List Key}(e:eM d=some k)(h:Den K F d v):∃a,v= .ref a∧F a=some (.tup (k.map kV)):=by
 cases d with
 |tup ds=>
  obtain⟨a,vs,rfl,h2,h3,_⟩:=h
  have:=gW e h3
  subst this
  exact⟨a,rfl,h2⟩
 |_=>cases e
def kQ(k:List Key)(ks:List (List Key)):Bool:=ks.any fun k'=>decide (k'=k)
open Classical in
noncomputable def isKey(H:Hp)(k:List Key)(u:Value):Bool:=decide (∃a,u= .ref a∧H a=some (.tup (k.map kV)))
theorem y8{K:W.Frag}{F H:Hp}{d:D}{v:V}{u:Value}{k k':List Key}(hs:Same F H)(e:eM d=some k')(h:Den K F d v)(r:RelV v u):isKey H k u=decide (k'=k):=by
 obtain⟨a,rfl,h2⟩:=Bb e h
 cases (show u=_ from r)
 unfold isKey
 by_cases hk:k'=k
 ·subst hk
  rw[decide_eq_true rfl]
  exact @decide_eq_true _ (Classical.propDecidable _) ⟨a,rfl,hs _ _ h2⟩
 ·rw[decide_eq_false hk]
  refine @decide_eq_false _ (Classical.propDecidable _) fun⟨b,e1,e2⟩=>hk ?_
  cases e1
  rw[hs _ _ h2] at e2
  injection e2 with e2
  injection e2 with e2
  exact xZ e2
theorem fO{X:Cx}{pins:List (Addr×Obj)}{σ:St}{F H:Hp}{s:Shared}{A:Around}{x:D}{v:V}{u:Value}{k:List Key}(I:Inv X pins σ H s)(hs:Same F H)(hu:A.units+6<cLine)(ex:eM x=some k)(hx:Den X.K F x v)(rx:RelV v u):
 ∀{ys:List D}{vs:List V}{aF:List Value}{ks:List (List Key)},jK ys=some ks→DenL X.K F ys vs→Vals vs aF→aF.any (isKey H k)=kQ k ks∧∀t∈aF,EqAt A s t u (isKey H k t)
 |[],_,_,_,e,h,r=>by
  cases e
  cases (show _=_ from h)
  cases r
  exact⟨rfl,fun t ht=>by cases ht⟩
 |y::ys,_,_,_,e,⟨w,ws,h1,h2,h3⟩,r=>by
  subst h1
  unfold jK at e
  split at e
  ·rename_i k' ks e1 e2
   cases e
   cases r with
   |cons r1 r2=>
    obtain⟨LN,LO⟩:=fO I hs hu ex hx rx e2 h3 r2
    have hk:=y8 (k:=k) hs e1 h2 r1
    refine⟨?_,fun t ht=>?_⟩
    ·rw[List.any_cons,LN,hk]
     rfl
    ·rcases List.mem_cons.mp ht with rfl | ht
     ·rw[hk]
      exact(rR I hs 6 A y x w v t u _ hu h2 hx r1 rx (Dp e1 ex)).eq
     ·exact LO t ht
  ·cases e
def yT(neg:Bool):D→D→M D
 |x, .lst ys=>match eM x,jK ys with
  |some k,some ks=>M.ret (.bl (if neg then !kQ k ks else kQ k ks))
  |_,_=>M.stuck
 |x, .tup ys=>match eM x,jK ys with
  |some k,some ks=>M.ret (.bl (if neg then !kQ k ks else kQ k ks))
  |_,_=>M.stuck
 |_,_=>M.stuck
def Hf(K:W.Frag)(neg:Bool):R2:=fun x y H Q=>∃F dx ys vs p k ks,Same F H∧Den K F dx x∧eM dx=some k∧jK ys=some ks∧DenL K F ys vs∧y= .ref p∧(SqL K H p vs∨SqT K H p vs)∧Q (.bl (if neg then !kQ k ks else kQ k ks)) H
section
variable{X:Cx}{Xw:Nat→Hp→Prop}{a b:Expr}{δa δb:DE}{pos:Pos}
theorem L0(hu:X.A.units+64<cLine):OpR X (compareOp .In) (Hf X.K false):=by
 intro pins s σ H x y v u Q I rx ry h
 obtain⟨F,dx,ys,vs,p,k,ks,hs,hx,ex,ek,hd,rfl,hq,q⟩:=h
 cases (show u=_ from ry)
 have I9:X.A.in1.units+6<cLine:=by show X.A.units+1+6<cLine;omega
 rcases hq with hq | hq
 ·obtain⟨aF,r,pl,hz⟩:=I.list hq
  obtain⟨e1,e2⟩:=fO (A:=X.A.in1) I hs I9 ex hx rx ek hd r
  refine SeqAt.in_listAt (isKey H k) pl.isList (fun w hw=>e2 w (by simpa using hw)) ⟨.bl _,H,I,rfl,?_⟩
  rw[show aF.toArray.any (isKey H k)=aF.any (isKey H k) by simp,e1]
  exact q
 ·obtain⟨aF,r,pl,hz⟩:=I.tuple hq
  obtain⟨e1,e2⟩:=fO (A:=X.A.in1) I hs I9 ex hx rx ek hd r
  refine SeqAt.in_tupleAt (isKey H k) pl (fun w hw=>e2 w (by simpa using hw)) ⟨.bl _,H,I,rfl,?_⟩
  rw[show aF.toArray.any (isKey H k)=aF.any (isKey H k) by simp,e1]
  exact q
theorem zA(hu:X.A.units+64<cLine):OpR X (compareOp .NotIn) (Hf X.K true):=by
 intro pins s σ H x y v u Q I rx ry h
 obtain⟨F,dx,ys,vs,p,k,ks,hs,hx,ex,ek,hd,rfl,hq,q⟩:=h
 cases (show u=_ from ry)
 have I9:X.A.in1.units+6<cLine:=by show X.A.units+1+6<cLine;omega
 rcases hq with hq | hq
 ·obtain⟨aF,r,pl,hz⟩:=I.list hq
  obtain⟨e1,e2⟩:=fO (A:=X.A.in1) I hs I9 ex hx rx ek hd r
  refine SeqAt.notIn_listAt (isKey H k) pl.isList (fun w hw=>e2 w (by simpa using hw)) ⟨.bl _,H,I,rfl,?_⟩
  rw[show aF.toArray.any (isKey H k)=aF.any (isKey H k) by simp,e1]
  exact q
 ·obtain⟨aF,r,pl,hz⟩:=I.tuple hq
  obtain⟨e1,e2⟩:=fO (A:=X.A.in1) I hs I9 ex hx rx ek hd r
  refine SeqAt.notIn_tupleAt (isKey H k) pl (fun w hw=>e2 w (by simpa using hw)) ⟨.bl _,H,I,rfl,?_⟩
  rw[show aF.toArray.any (isKey H k)=aF.any (isKey H k) by simp,e1]
  exact q
theorem Gk{neg:Bool}{K:W.Frag}:vD K (Hf K neg) (yT neg):=fun Xw F H x y dx dy Q s hx hy w=>by
 unfold yT at w
 split at w
 ·rename_i ys
  split at w
  ·rename_i k ks e1 e2
   obtain⟨p,vs,h1,h2,h3,_⟩:=hy
   exact⟨F,dx,ys,vs,p,k,ks,s,hx,e1,e2,h3,h1, .inl (SqL.of (s _ _ h2)),WP.now w s rfl⟩
  ·exact w.elim
 ·rename_i ys
  split at w
  ·rename_i k ks e1 e2
   obtain⟨p,vs,h1,h2,h3,_⟩:=hy
   exact⟨F,dx,ys,vs,p,k,ks,s,hx,e1,e2,h3,h1, .inr (SqT.of (s _ _ h2)),WP.now w s rfl⟩
  ·exact w.elim
 ·exact w.elim
theorem qW(hu:X.A.units+64<cLine)(ha:PD X Xw a δa)(hb:PD X Xw b δb)(hm:behindInMarks .NotIn b=false:=by rfl):rp X Xw (.Compare a [.NotIn] [b] pos) (df (d2 (yT true) δa δb)):=iE (zA hu) Gk ha hb hm
end
end L3
namespace L3
open PySem PySem.W PyProof.Rows
def cY{α:Type}(b:Nat→Nat→Bool):KasT α→α
 | .ret a=>a
 | .ask i j k=>cY b (k (b i j))
theorem eE{α β:Type}(b:Nat→Nat→Bool)(f:α→KasT β):∀t:KasT α,cY b (t.bind f)=cY b (f (cY b t))
 | .ret _=>rfl
 | .ask i j k=>eE b f (k (b i j))
structure Lt (n:Nat) (b:Nat→Nat→Bool):Prop where
 tr:∀i j k,b i j=true→b j k=true→b i k=true
 PK:∀i j,b i j=true→b j i=false
 tot:∀i j,i<n→j<n→i≠j→b i j=true∨b j i=true
abbrev at'(p:Array Nat)(i:Nat):Nat:=p.getD i 0
def Ri(b:Nat→Nat→Bool)(p:Array Nat)(k:Nat):Prop:=∀i j,i<j→j<k→b (at' p i) (at' p j)=true
def Fa(b:Nat→Nat→Bool)(p:Array Nat)(k:Nat):Prop:=∀i j,i<j→j<k→b (at' p j) (at' p i)=true
structure PN (n:Nat) (p:Array Nat):Prop where
 sz:p.size=n
 lt:∀i,i<n→at' p i<n
 inj:∀i j,i<n→j<n→at' p i=at' p j→i=j
section
variable{n:Nat}{b:Nat→Nat→Bool}(L:Lt n b)
include L
theorem Ri.more{p:Array Nat}{k:Nat}(h:Ri b p k)(h1:1≤k)(e:b (at' p (k - 1)) (at' p k)=true):Ri b p (k+1):=fun i j xO hj=>by
 by_cases hk:j<k
 ·exact h i j xO hk
 ·have:j=k:=by omega
  subst this
  by_cases hi:i=j - 1
  ·subst hi;exact e
  ·exact L.tr _ _ _ (h i (j - 1) (by omega) (by omega)) e
theorem Fa.more{p:Array Nat}{k:Nat}(h:Fa b p k)(h1:1≤k)(e:b (at' p k) (at' p (k - 1))=true):Fa b p (k+1):=fun i j xO hj=>by
 by_cases hk:j<k
 ·exact h i j xO hk
 ·have:j=k:=by omega
  subst this
  by_cases hi:i=j - 1
  ·subst hi;exact e
  ·exact L.tr _ _ _ e (h i (j - 1) (by omega) (by omega))
theorem rD{p:Array Nat}(P:PN n p):∀(f k:Nat),1≤k→k+f≤n→Ri b p k→k≤cY b (kas_asc p f k)∧cY b (kas_asc p f k)≤k+f∧Ri b p (cY b (kas_asc p f k))∧(cY b (kas_asc p f k)<k+f→b (at' p (cY b (kas_asc p f k))) (at' p (cY b (kas_asc p f k) - 1))=true)
 |0,k,h1,hn,h=>⟨Nat.le_refl _,Nat.le_refl _,h,fun z=>absurd z (Nat.lt_irrefl _)⟩
 |f+1,k,h1,hn,h=>by
  have e:cY b (kas_asc p (f+1) k)=cY b (if b (at' p k) (at' p (k - 1))=true then KasT.ret k else kas_asc p f (k+1)):=rfl
  rw[e]
  by_cases hb:b (at' p k) (at' p (k - 1))=true
  ·rw[if_pos hb]
   exact⟨Nat.le_refl _,by show k≤_;omega,h,fun _=>hb⟩
  ·rw[if_neg hb]
   have hr:b (at' p (k - 1)) (at' p k)=true:=by
    rcases L.tot (at' p (k - 1)) (at' p k) (P.lt _ (by omega)) (P.lt _ (by omega)) (fun z=>by have:=P.inj _ _ (by omega) (by omega) z;omega) with q | q
    ·exact q
    ·exact absurd q hb
   obtain⟨a1,a2,a3,a4⟩:=rD P f (k+1) (by omega) (by omega) (Ri.more L h h1 hr)
   exact⟨by omega,by omega,a3,fun z=>a4 (by omega)⟩
theorem t5{p:Array Nat}(P:PN n p):∀(f k:Nat),1≤k→k+f≤n→Fa b p k→∃m,cY b (kas_desc f p k 0)=(p,m,0)∧k≤m∧m≤k+f∧Fa b p m
 |0,k,h1,hn,h=>⟨k,rfl,Nat.le_refl _,Nat.le_refl _,h⟩
 |f+1,k,h1,hn,h=>by
  have e:cY b (kas_desc (f+1) p k 0)=cY b (if b (at' p k) (at' p (k - 1))=true then(if 0>0 then kas_desc f (kas_rev p (k - (0+1)) k) (k+1) 0 else kas_desc f p (k+1) 0)
   else .ask (p.getD (k - 1) 0) (p.getD k 0) fun d=>if d=true then .ret (p,k,0) else kas_desc f p (k+1) (0+1)):=rfl
  rw[e]
  by_cases hb:b (at' p k) (at' p (k - 1))=true
  ·rw[if_pos hb,if_neg (by omega)]
   obtain⟨m,e1,e2,e3,e4⟩:=t5 P f (k+1) (by omega) (by omega) (Fa.more L h h1 hb)
   exact⟨m,e1,by omega,by omega,e4⟩
  ·rw[if_neg hb]
   have hr:b (at' p (k - 1)) (at' p k)=true:=by
    rcases L.tot (at' p (k - 1)) (at' p k) (P.lt _ (by omega)) (P.lt _ (by omega)) (fun z=>by have:=P.inj _ _ (by omega) (by omega) z;omega) with q | q
    ·exact q
    ·exact absurd q hb
   refine⟨k,?_,Nat.le_refl _,by omega,h⟩
   show cY b (if b (at' p (k - 1)) (at' p k)=true then KasT.ret (p,k,0) else kas_desc f p (k+1) (0+1))=_
   rw[if_pos hr]
   rfl
end
theorem dh(p:Array Nat)(k:Nat):at' p k=(p[k]?).getD 0:=by
 unfold at'
 rw[Array.getD_eq_getD_getElem?]
theorem Cc{p:Array Nat}{m:Nat}(hm:m≤p.size)(k:Nat):at' (kas_rev p 0 m) k=if k<m then at' p (m - 1 - k) else at' p k:=by
 have e:=getElem?_mirror_all (xs:=p) (i:=0) hm k
 rw[dh]
 show (((mirror p 0 m ((m - 0) / 2))[k]?).getD 0)=_
 rw[e]
 by_cases h:k<m
 ·rw[if_pos ⟨Nat.zero_le _,h⟩,if_pos h,dh,Nat.zero_add]
 ·rw[if_neg (fun z=>h z.2),if_neg h,dh]
theorem Af{p:Array Nat}{k l:Nat}(hk:k<p.size)(hl:l≤k)(j:Nat):at' (bubble p k (k - l)) j=if j=l then at' p k else if l<j∧j≤k then at' p (j - 1) else at' p j:=by
 have e:=getElem?_bubble hk (k - l) (by omega) j
 have e2:k - (k - l)=l:=by omega
 rw[e2] at e
 rw[dh (bubble p k (k - l)),e,dh p k,dh p (j - 1),dh p j]
 by_cases c1:j=l
 ·rw[if_pos c1,if_pos c1]
 ·rw[if_neg c1,if_neg c1]
  by_cases c2:l<j∧j≤k
  ·rw[if_pos c2,if_pos c2]
  ·rw[if_neg c2,if_neg c2]
section
variable{n:Nat}{b:Nat→Nat→Bool}
theorem PN.rev{p:Array Nat}(P:PN n p){m:Nat}(hm:m≤n):PN n (kas_rev p 0 m):=by
 have ha:=Cc (p:=p) (m:=m) (by rw[P.sz];exact hm)
 refine⟨(mirror_size ..).trans P.sz,fun i hi=>?_,fun i j hi hj e=>?_⟩
 ·rw[ha]
  split
  ·exact P.lt _ (by omega)
  ·exact P.lt _ hi
 ·rw[ha,ha] at e
  split at e<;>split at e
  ·have:=P.inj _ _ (by omega) (by omega) e;omega
  ·have:=P.inj _ _ (by omega) hj e;omega
  ·have:=P.inj _ _ hi (by omega) e;omega
  ·exact P.inj _ _ hi hj e
theorem PN.bub{p:Array Nat}(P:PN n p){k l:Nat}(hk:k<n)(hl:l≤k):PN n (bubble p k (k - l)):=by
 have ha:=Af (p:=p) (k:=k) (l:=l) (by rw[P.sz];exact hk) hl
 refine⟨(bubble_size ..).trans P.sz,fun i hi=>?_,fun i j hi hj e=>?_⟩
 ·rw[ha]
  split
  ·exact P.lt _ hk
  ·split
   ·exact P.lt _ (by omega)
   ·exact P.lt _ hi
 ·rw[ha,ha] at e
  split at e
  ·split at e
   ·omega
   ·split at e
    ·have:=P.inj _ _ hk (by omega) e;omega
    ·have:=P.inj _ _ hk hj e;omega
  ·split at e
   ·split at e
    ·have:=P.inj _ _ (by omega) hk e;omega
    ·split at e
     ·have:=P.inj _ _ (by omega) (by omega) e;omega
     ·have:=P.inj _ _ (by omega) hj e;omega
   ·split at e
    ·have:=P.inj _ _ hi hk e;omega
    ·split at e
     ·have:=P.inj _ _ hi (by omega) e;omega
     ·exact P.inj _ _ hi hj e
theorem Fa.rev{p:Array Nat}(P:PN n p){m:Nat}(hm:m≤n)(h:Fa b p m):Ri b (kas_rev p 0 m) m:=fun i j xO hj=>by
 have ha:=Cc (p:=p) (m:=m) (by rw[P.sz];exact hm)
 rw[ha,ha,if_pos (by omega),if_pos hj]
 exact h _ _ (by omega) (by omega)
variable(L:Lt n b)
include L
theorem CK{p:Array Nat}(P:PN n p){m:Nat}(h1:1≤m)(hm:m≤n)(h:Fa b p m):∃k q,cY b (kas_tail3 m n p)=(k,q)∧PN n q∧1≤k∧k≤n∧Ri b q k:=by
 unfold kas_tail3
 rw[eE]
 obtain⟨a1,a2,a3,_⟩:=rD L (P.rev hm) (n - m) m h1 (by omega) (Fa.rev P hm h)
 exact⟨_,_,rfl,P.rev hm,by omega,by omega,a3⟩
theorem yO{p:Array Nat}(P:PN n p)(h2:2≤n):∃k q,cY b (kas_count n p)=(k,q)∧PN n q∧1≤k∧k≤n∧Ri b q k:=by
 unfold kas_count
 rw[eE]
 obtain⟨a1,a2,a3,a4⟩:=rD L P (n - 1) 1 (Nat.le_refl _) (by omega) (fun i j xO hj=>by omega)
 generalize cY b (kas_asc p (n - 1) 1)=m at a1 a2 a3 a4
 by_cases he:m=n
 ·subst he
  rw[if_pos (by simp)]
  exact⟨m,p,rfl,P,by omega,Nat.le_refl _,a3⟩
 ·rw[if_neg (by simpa using he)]
  by_cases hg:m>1
  ·rw[if_pos hg]
   have hb:b (p.getD 0 0) (p.getD (m - 1) 0)=true:=a3 0 (m - 1) (by omega) (by omega)
   show∃k q,cY b (if b (p.getD 0 0) (p.getD (m - 1) 0)=true then KasT.ret (m,p) else kas_descPart m n (kas_rev p 0 m))=(k,q)∧_
   rw[if_pos hb]
   exact⟨m,p,rfl,P,by omega,by omega,a3⟩
  ·rw[if_neg hg]
   have hm:m=1:=by omega
   subst hm
   have hb:=a4 (by omega)
   unfold kas_descPart
   rw[eE]
   obtain⟨m,e1,e2,e3,e4⟩:=t5 L P (n - (1+1)) (1+1) (by omega) (by omega) (fun i j xO hj=>by
    have hi:i=0:=by omega
    have hj:j=1:=by omega
    subst hi hj
    exact hb)
   rw[e1]
   dsimp only
   rw[if_neg (by omega)]
   exact CK L P (by omega) (by omega) e4
theorem k0{p:Array Nat}(P:PN n p){k:Nat}(hk:k<n)(h:Ri b p k):∀(f l r:Nat),l≤r→r≤k→r - l≤f→(∀i,i<l→b (at' p i) (at' p k)=true)→(∀i,r≤i→i<k→b (at' p k) (at' p i)=true)→
 cY b (kas_place p k f l r)≤k∧(∀i,i<cY b (kas_place p k f l r)→b (at' p i) (at' p k)=true)∧∀i,cY b (kas_place p k f l r)≤i→i<k→b (at' p k) (at' p i)=true
 |0,l,r,h1,h2,h3,h4,h5=>by
  have:r=l:=by omega
  subst this
  exact⟨h2,h4,h5⟩
 |f+1,l,r,h1,h2,h3,h4,h5=>by
  unfold kas_place
  by_cases M5:l≥r
  ·rw[if_pos M5]
   have:r=l:=by omega
   subst this
   exact⟨h2,h4,h5⟩
  ·rw[if_neg M5]
   have hm:(l+r) / 2<r:=by omega
   have F7:l≤(l+r) / 2:=by omega
   show cY b (if b (at' p k) (at' p ((l+r) / 2))=true then kas_place p k f l ((l+r) / 2) else kas_place p k f ((l+r) / 2+1) r)≤k∧(∀i,i<cY b (if b (at' p k) (at' p ((l+r) / 2))=true then kas_place p k f l ((l+r) / 2) else kas_place p k f ((l+r) / 2+1) r)→_)∧∀i,cY b (if b (at' p k) (at' p ((l+r) / 2))=true then kas_place p k f l ((l+r) / 2) else kas_place p k f ((l+r) / 2+1) r)≤i→_
   by_cases hb:b (at' p k) (at' p ((l+r) / 2))=true
   ·rw[if_pos hb]
    refine k0 P hk h f l ((l+r) / 2) F7 (by omega) (by omega) h4 fun i hi Ot=>?_
    by_cases e:i=(l+r) / 2
    ·rw[e];exact hb
    ·exact L.tr _ _ _ hb (h _ _ (by omega) Ot)
   ·rw[if_neg hb]
    have hr:b (at' p ((l+r) / 2)) (at' p k)=true:=by
     rcases L.tot (at' p ((l+r) / 2)) (at' p k) (P.lt _ (by omega)) (P.lt _ hk) (fun z=>by have:=P.inj _ _ (by omega) hk z;omega) with q | q
     ·exact q
     ·exact absurd q hb
    refine k0 P hk h f ((l+r) / 2+1) r (by omega) h2 (by omega) (fun i hi=>?_) h5
    by_cases e:i=(l+r) / 2
    ·rw[e];exact hr
    ·exact L.tr _ _ _ (h i ((l+r) / 2) (by omega) (by omega)) hr
theorem xA:∀(f:Nat) {p:Array Nat}{k:Nat},PN n p→k+f≤n→Ri b p k→PN n (cY b (kas_bin f p k))∧Ri b (cY b (kas_bin f p k)) (k+f)
 |0,p,k,P,_,h=>⟨P,h⟩
 |f+1,p,k,P,hn,h=>by
  have hk:k<n:=by omega
  unfold kas_bin
  rw[eE]
  obtain⟨a1,a2,a3⟩:=k0 L P hk h k 0 k (Nat.zero_le _) (Nat.le_refl _) (by omega) (fun i hi=>by omega) (fun i h1 h2=>by omega)
  generalize cY b (kas_place p k k 0 k)=l at a1 a2 a3
  have ha:=Af (p:=p) (k:=k) (l:=l) (by rw[P.sz];exact hk) a1
  have hR:Ri b (bubble p k (k - l)) (k+1):=fun i j xO hj=>by
   rw[ha,ha]
   by_cases c1:i=l
   ·rw[if_pos c1,if_neg (by omega),if_pos ⟨by omega,by omega⟩]
    exact a3 _ (by omega) (by omega)
   ·rw[if_neg c1]
    by_cases c2:j=l
    ·rw[if_pos c2,if_neg (by omega)]
     exact a2 _ (by omega)
    ·rw[if_neg c2]
     by_cases c3:l<i∧i≤k
     ·rw[if_pos c3,if_pos ⟨by omega,by omega⟩]
      exact h _ _ (by omega) (by omega)
     ·rw[if_neg c3]
      by_cases c4:l<j∧j≤k
      ·rw[if_pos c4]
       exact h _ _ (by omega) (by omega)
      ·rw[if_neg c4]
       exact h _ _ xO (by omega)
  have:=xA f (P.bub hk a1) (by omega) hR
  rw[show k+(f+1)=k+1+f by omega]
  exact this
theorem Cy(h2:2≤n):PN n (cY b (kas_sort n))∧Ri b (cY b (kas_sort n)) n:=by
 have P0:PN n (List.toArray (List.range n)):=by
  have e:∀i,i<n→at' (List.toArray (List.range n)) i=i:=fun i hi=>by rw[dh];simp[hi]
  exact⟨by simp,fun i hi=>by rw[e i hi];exact hi,fun i j hi hj z=>by rw[e i hi,e j hj] at z;exact z⟩
 unfold kas_sort
 rw[eE]
 obtain⟨k,q,e,P,k1,kn,hR⟩:=yO L P0 h2
 rw[e]
 dsimp only
 by_cases dP:k<n
 ·rw[if_pos dP]
  have:=xA L (n - max k 1) (k:=max k 1) P (by omega) (by rw[show max k 1=k by omega];exact hR)
  rw[show max k 1+(n - max k 1)=n by omega] at this
  exact this
 ·rw[if_neg dP]
  have:k=n:=by omega
  subst this
  exact⟨P,hR⟩
end
def Asks{α:Type}(n:Nat)(P:α→Prop):KasT α→Prop
 | .ret a=>P a
 | .ask i j k=>i<n∧j<n∧∀c,Asks n P (k c)
theorem Asks.bind{α β:Type}{n:Nat}{P:α→Prop}{Q:β→Prop}{f:α→KasT β}:∀{t:KasT α},Asks n P t→(∀a,P a→Asks n Q (f a))→Asks n Q (t.bind f)
 | .ret a,h,hf=>hf a h
 | .ask i j k,h,hf=>⟨h.1,h.2.1,fun c=>Asks.bind (h.2.2 c) hf⟩
theorem wp_run{α:Type}{n:Nat}{P:α→Prop}{b:Nat→Nat→Bool}{cmp:Nat→Nat→(Bool→Shared→Prop)→Shared→Prop}{Q:α→Shared→Prop}{s:Shared}(hc:∀i j C,i<n→j<n→C (b i j) s→cmp i j C s):∀{t:KasT α},Asks n P t→Q (cY b t) s→t.kasWp cmp Q s
 | .ret a,_,h=>h
 | .ask i j k,ha,h=>hc i j _ ha.1 ha.2.1 (wp_run hc (ha.2.2 _) h)
def Below(n:Nat)(p:Array Nat):Prop:=∀x∈p,x<n
section
variable{n:Nat}(hn:0<n)
include hn
theorem Below.at{p:Array Nat}(h:Below n p)(i:Nat):at' p i<n:=by
 rw[dh]
 cases e:p[i]? with
 |none=>exact hn
 |some x=>exact h x (Array.mem_of_getElem? e)
theorem Below.rev{p:Array Nat}(h:Below n p)(i j:Nat):Below n (kas_rev p i j):=fun x hx=>h x ((mirror_perm p i j ((j - i) / 2)).mem_iff.mp hx)
theorem Below.bub{p:Array Nat}(h:Below n p)(k d:Nat):Below n (bubble p k d):=fun x hx=>h x ((bubble_perm p k d).mem_iff.mp hx)
theorem mY{p:Array Nat}(h:Below n p):∀f k,Asks n (fun _=>True) (kas_asc p f k)
 |0,k=>trivial
 |f+1,k=>⟨Below.at hn h _,Below.at hn h _,fun c=>by
  show Asks n _ (if c=true then KasT.ret k else kas_asc p f (k+1))
  cases c
  ·exact mY h f (k+1)
  ·exact trivial⟩
theorem ix:∀f {p:Array Nat} k q,Below n p→Asks n (fun r=>Below n r.1) (kas_desc f p k q)
 |0,p,k,q,h=>h
 |f+1,p,k,q,h=>⟨Below.at hn h _,Below.at hn h _,fun c=>by
  cases c
  ·refine⟨Below.at hn h _,Below.at hn h _,fun d=>?_⟩
   cases d
   ·exact ix f _ _ h
   ·exact h
  ·show Asks n _ (if q>0 then kas_desc f (kas_rev p (k - (q+1)) k) (k+1) 0 else kas_desc f p (k+1) 0)
   split
   ·exact ix f _ _ (Below.rev hn h _ _)
   ·exact ix f _ _ h⟩
theorem p3{p:Array Nat}(h:Below n p)(m r:Nat):Asks n (fun x=>Below n x.2) (kas_tail3 m r p):=Asks.bind (mY hn (Below.rev hn h 0 m) _ _) fun _ _=>Below.rev hn h 0 m
theorem mZ{p:Array Nat}(h:Below n p)(m r:Nat):Asks n (fun x=>Below n x.2) (kas_descPart m r p):=Asks.bind (ix hn _ _ _ h) fun x hx=>by
 split
 ·exact p3 hn (Below.rev hn hx _ _) _ _
 ·exact p3 hn hx _ _
theorem vJ{p:Array Nat}(h:Below n p)(r:Nat):Asks n (fun x=>Below n x.2) (kas_count r p):=Asks.bind (mY hn h _ _) fun m _=>by
 split
 ·exact h
 ·split
  ·refine⟨Below.at hn h _,Below.at hn h _,fun c=>?_⟩
   cases c
   ·exact mZ hn (Below.rev hn h _ _) _ _
   ·exact h
  ·exact mZ hn h _ _
theorem i6{p:Array Nat}(h:Below n p)(k:Nat):∀f l r,Asks n (fun _=>True) (kas_place p k f l r)
 |0,l,r=>trivial
 |f+1,l,r=>by
  unfold kas_place
  split
  ·exact trivial
  ·refine⟨Below.at hn h _,Below.at hn h _,fun c=>?_⟩
   cases c
   ·exact i6 h k f _ _
   ·exact i6 h k f _ _
theorem tP:∀f {p:Array Nat} k,Below n p→Asks n (fun _=>True) (kas_bin f p k)
 |0,p,k,h=>trivial
 |f+1,p,k,h=>Asks.bind (i6 hn h k _ _ _) fun l _=>tP f _ (Below.bub hn h _ _)
theorem yC:Asks n (fun _=>True) (kas_sort n):=by
 have h0:Below n (List.toArray (List.range n)):=fun x hx=>by simpa using hx
 refine Asks.bind (vJ hn h0 n) fun x hx=>?_
 split
 ·exact tP hn _ _ hx
 ·exact trivial
end
def di:List Int→List Int→Bool
 |[],[]=>false
 |[],_::_=>true
 |_::_,[]=>false
 |x::xs,y::ys=>if x=y then di xs ys else decide (x<y)
theorem r_:∀a b c:List Int,di a b=true→di b c=true→di a c=true
 |[],[],_,h,_=>by cases h
 |[],_::_,[],_,h=>by cases h
 |[],_::_,_::_,_,_=>rfl
 |_::_,[],_,h,_=>by cases h
 |_::_,_::_,[],_,h=>by cases h
 |x::a,y::b,z::c,h1,h2=>by
  unfold di at h1 h2⊢
  by_cases e1:x=y
  ·subst e1
   rw[if_pos rfl] at h1
   by_cases e2:x=z
   ·subst e2
    rw[if_pos rfl] at h2⊢
    exact r_ a b c h1 h2
   ·rw[if_neg e2] at h2⊢
    exact h2
  ·rw[if_neg e1] at h1
   have h1:=of_decide_eq_true h1
   by_cases e2:y=z
   ·subst e2
    rw[if_neg e1]
    exact decide_eq_true h1
   ·rw[if_neg e2] at h2
    have h2:=of_decide_eq_true h2
    rw[if_neg (by omega)]
    exact decide_eq_true (by omega)
theorem jN:∀a b:List Int,di a b=true→di b a=false
 |[],[],h=>by cases h
 |[],_::_,_=>rfl
 |_::_,[],h=>by cases h
 |x::a,y::b,h=>by
  unfold di at h⊢
  by_cases e:x=y
  ·subst e
   rw[if_pos rfl] at h⊢
   exact jN a b h
  ·rw[if_neg e] at h
   have h:=of_decide_eq_true h
   rw[if_neg (fun z=>e z.symm)]
   exact decide_eq_false (by omega)
theorem nS:∀a b:List Int,a≠b→di a b=true∨di b a=true
 |[],[],h=>absurd rfl h
 |[],_::_,_=> .inl rfl
 |_::_,[],_=> .inr rfl
 |x::a,y::b,h=>by
  unfold di
  by_cases e:x=y
  ·subst e
   rw[if_pos rfl,if_pos rfl]
   exact nS a b fun z=>h (by rw[z])
  ·rw[if_neg e,if_neg (fun z=>e z.symm)]
   by_cases q:x<y
   ·exact .inl (decide_eq_true q)
   ·exact .inr (decide_eq_true (by omega))
section
variable{prog:Program}{w:World}{A:Around}{E:Value→Shared→Prop}{s:Shared}
theorem uA{Q:Bool→Shared→Prop}:∀{us vs:List Value}{xs ys:List Int}(i:Nat) {fin:Bool},IntsAre us xs→IntsAre vs ys→fin=decide (xs.length<ys.length)→Q (di xs ys) s→KatLex prog w A true fin Q (us.zip vs) i s
 |_,_,_,_,i,_, .nil, .nil,e,h=>by subst e;exact kat_nil h
 |_,_,_,_,i,_, .nil, .cons y t r,e,h=>by subst e;exact kat_nil h
 |_,_,_,_,i,_, .cons x t r, .nil,e,h=>by subst e;exact kat_nil h
 |_,_,_,_,i,_, .cons (vs:=us) (ns:=xs) x t r, .cons (vs:=vs) (ns:=ys) y u r',e,h=>by
  refine kat_cons (wpAny_eqBool_int ?_)
  by_cases q:x=y
  ·subst q
   rw[show (x==x)=true by simp]
   refine kat_yes (uA (i+1) r r' (by rw[e];simp) ?_)
   unfold di at h
   rw[if_pos rfl] at h
   exact h
  ·rw[show (x==y)=false by simpa using q]
   unfold di at h
   rw[if_neg q] at h
   refine kat_no ?_
   by_cases hi:(i==0)=true
   ·rw[hi]
    exact oneLt_int h
   ·rw[show (i==0)=false by simpa using hi]
    exact kat_one _ _ (PyProof.Rows.lt_int h)
def TupsAt(h:Heap):List Value→List (List Int)→Prop
 |[],[]=>True
 |v::vs,k::ks=>(∃a o us m,v= .ref a∧h.get? a=some o∧o.cls= .type "tuple"∧o.data= .seq (List.toArray us) m∧IntsAre us k∧k≠[])∧TupsAt h vs ks
 |_,_=>False
theorem TupsAt.len{h:Heap}:∀{vs:List Value}{ks:List (List Int)},TupsAt h vs ks→vs.length=ks.length
 |[],[],_=>rfl
 |v::vs,k::ks,t=>by rw[List.length_cons,List.length_cons,TupsAt.len t.2]
 |[],_::_,t=>t.elim
 |_::_,[],t=>t.elim
theorem TupsAt.get{h:Heap}:∀{vs:List Value}{ks:List (List Int)}{i:Nat},TupsAt h vs ks→i<vs.length→∃a o us m,vs.getD i Value.none= .ref a∧h.get? a=some o∧o.cls= .type "tuple"∧o.data= .seq (List.toArray us) m∧IntsAre us (ks.getD i [])∧ks.getD i []≠[]
 |v::vs,k::ks,0,t,_=>t.1
 |v::vs,k::ks,i+1,t,hi=>TupsAt.get (i:=i) t.2 (by simpa using hi)
 |[],_,_,_,hi=>by simp at hi
 |_::_,[],_,t,_=>t.elim
theorem TupsAt.keep{h h':Heap}{a:Addr}(k:∀b o,b≠a→h.get? b=some o→h'.get? b=some o)(ha:∀o,h.get? a=some o→o.cls≠ .type "tuple"):∀{vs:List Value}{ks:List (List Int)},TupsAt h vs ks→TupsAt h' vs ks
 |[],[],_=>trivial
 |v::vs,x::ks,⟨⟨b,o,us,m,e1,e2,e3,e4⟩,t⟩=>⟨⟨b,o,us,m,e1,k b o (fun z=>ha o (by rw[←z];exact e2) e3) e2,e3,e4⟩,TupsAt.keep k ha t⟩
 |[],_::_,t=>t.elim
 |_::_,[],t=>t.elim
theorem nH:∀{us:List Value}{xs:List Int},IntsAre us xs→us.length=xs.length
 |_,_, .nil=>rfl
 |_,_, .cons x t r=>by rw[List.length_cons,List.length_cons,nH r]
theorem TupsAt.firsts{M:Model}{h:Heap}:∀{vs:List Value}{ks:List (List Int)},TupsAt h vs ks→∃fs,KatTups h vs fs∧fs.length=vs.length∧∀v∈fs,Looks M h (typeOf v) (.type "int")
 |[],[],_=>⟨[],KatTups.nil,rfl,fun _ z=>by cases z⟩
 |v::vs,k::ks,⟨⟨a,o,us,m,e1,e2,e3,e4,e5,e6⟩,t⟩=>by
  obtain⟨fs,q1,q2,q3⟩:=TupsAt.firsts (M:=M) t
  subst e1
  cases e5 with
  |nil=>exact absurd rfl e6
  |cons x t r=>
   refine⟨.int x t::fs,KatTups.cons e2 e3 e4 (by simp) q1,by simp[q2],fun v hv=>?_⟩
   rcases List.mem_cons.mp hv with rfl | hv
   ·exact show Looks M h (pure (Value.type "int")) (Value.type "int") from .now
   ·exact q3 v hv
 |[],_::_,t=>t.elim
 |_::_,[],t=>t.elim
theorem asked{vs:List Value}{ks:List (List Int)}(t:TupsAt s.heap vs ks)(i j:Nat)(C:Bool→Shared→Prop)(hi:i<vs.length)(hj:j<vs.length)(h:C (di (ks.getD i []) (ks.getD j [])) s):kas_ask prog w A (tuples' true) vs i j C s:=by
 obtain⟨a,o,us,m,e1,e2,_,e4,e5,_⟩:=t.get hi
 obtain⟨a',o',Qh,m',z5,HG,_,NJ,My,_⟩:=t.get hj
 unfold kas_ask
 rw[e1,z5]
 refine kat_lt e2 e4 HG NJ (uA 0 e5 My ?_ h)
 rw[List.size_toArray,List.size_toArray,nH e5,nH My]
theorem Bs{α:Type}{l:List α}(h:l.Nodup){i j:Nat}(hi:i<l.length)(hj:j<l.length)(e:l[i]=l[j]):i=j:=by
 rcases Nat.lt_trichotomy i j with q | q | q
 ·exact absurd e (List.pairwise_iff_getElem.mp h i j hi hj q)
 ·exact q
 ·exact absurd e.symm (List.pairwise_iff_getElem.mp h j i hj hi q)
theorem lx{a:Addr}{c:Nat}{vs:List Value}{ks:List (List Int)}{P:PySem.Fin→Shared→Prop}(ho:s.heap.get? a=some (seqObj "list" vs.toArray c))(ht:TupsAt s.heap vs ks)(hd:ks.Nodup)(HJ:vs.length<64)
 (h:∀(p:Array Nat) (h':Heap) (c':Nat),PN vs.length p→Ri (fun i j=>di (ks.getD i []) (ks.getD j [])) p vs.length→h'.get? a=some (seqObj "list" (List.toArray (p.toList.map fun i=>vs.getD i Value.none)) c')→
  (∀b o,b≠a→s.heap.get? b=some o→h'.get? b=some o)→P (.done (.ret .none)) {s with heap:=h'}):wpAny (model prog w) A (Builtin.«list.sort» ⟨[.ref a],[]⟩) P E s:=by
 have vE:sizeLine=16777216:=sizeLine_eq
 have s1:=Heap.SameBut.update s.heap a (Obj.mapSeq fun _=>(#[]:Array Value))
 obtain⟨e1,M9⟩:∃e1,(s.heap.update a (Obj.mapSeq fun _=>(#[]:Array Value))).get? a=some (seqObj "list" #[] e1):=⟨_,get?_update_seq ho fun _=> #[]⟩
 have k1:∀b o,b≠a→s.heap.get? b=some o→(((s.heap.update a (Obj.mapSeq fun _=>(#[]:Array Value))).push (seqObj "tuple" vs.toArray 0)).push (seqObj "list" #[] 0)).get? b=some o:=fun b o hb e=>
  Heap.get?_push_of_some _ (Heap.get?_push_of_some _ ((s1.2 b hb).trans e))
 have Lp:=Heap.get?_push_of_some (seqObj "list" #[] 0) (Heap.get?_push_of_some (seqObj "tuple" vs.toArray 0) M9)
 have t3:=ht.keep k1 (fun o e z=>by rw[ho] at e;cases e;exact absurd (Value.type.inj z) (by decide))
 have fin:∀(st:SortSt) (p:Array Nat),PN vs.length p→Ri (fun i j=>di (ks.getD i []) (ks.getD j [])) p vs.length→(arrOf st).map (·.2)=List.toArray (p.toList.map fun i=>vs.getD i Value.none)→failedOf st=none→
  wpAny (model prog w) A (do
   let touched:=(←seqEpoch a) !=e1
   Builtin.List.listUpdate (.ref a) fun _=>(arrOf st).map (·.2)
   if let some e:=failedOf st then rule "list.sort.comparison-raised";throw e
   if touched then rule "list.sort.modified";raiseError "ValueError" "list modified during sort"
   ret .none) P E {s with heap:=((s.heap.update a (Obj.mapSeq fun _=>(#[]:Array Value))).push (seqObj "tuple" vs.toArray 0)).push (seqObj "list" #[] 0)}:=fun st p hp hr he hf=>by
  have hz:(List.toArray (p.toList.map fun i=>vs.getD i Value.none)).size=vs.length:=by rw[List.size_toArray,List.length_map,Array.length_toList,hp.sz]
  rw[he,hf]
  refine wpAny_bind (seqEpoch_at Lp rfl (wpAny_bind (listUpdate_at Lp rfl ?_ (Nat.zero_le _) (by rw[hz,vE];omega))))
  simp only[bne_self_eq_false,Bool.false_eq_true,if_false]
  have s2:=Heap.SameBut.update (((s.heap.update a (Obj.mapSeq fun _=>(#[]:Array Value))).push (seqObj "tuple" vs.toArray 0)).push (seqObj "list" #[] 0)) a (Obj.mapSeq fun _=>List.toArray (p.toList.map fun i=>vs.getD i Value.none))
  exact wpAny_pure (h p _ _ hp hr (get?_update_seq Lp fun _=>List.toArray (p.toList.map fun i=>vs.getD i Value.none)) fun b o hb e=>(s2.2 b hb).trans (k1 b o hb e))
 rw[list_sort_plain]
 refine wpAny_bind (listItems_at ho rfl (wpAny_bind (listUpdate_at ho rfl (wpAny_bind (seqEpoch_at M9 rfl ?_)) (by rw[List.size_toArray,vE];omega) (Nat.zero_le _))))
 refine wpAny_bind (wpAny_newTuple (wpAny_bind (wpAny_newList (wpAny_holding ?_) (Nat.zero_le _))) (by show vs.length≤_;rw[vE];omega))
 show wpAny (model prog w) A _ P E {s with heap:=((s.heap.update a (Obj.mapSeq fun _=>(#[]:Array Value))).push (seqObj "tuple" vs.toArray 0)).push (seqObj "list" #[] 0)}
 dsimp only
 by_cases hs:vs.toArray.size<2
 ·rw[if_pos hs,if_pos hs]
  have xQ:vs.length<2:=by simpa using hs
  refine wpAny_bind (wpAny_pure (wpAny_bind (wpAny_pure ?_)))
  refine fin (SortSt.mk' general' (vs.toArray.zip vs.toArray) #[] 7 none) (List.toArray (List.range vs.length)) ⟨by simp,fun i hi=>?_,fun i j hi hj _=>by omega⟩ (fun i j xO hj=>by omega) ?_ rfl
  ·rw[dh];simp[hi]
  ·show (vs.toArray.zip vs.toArray).map (·.2)=_
   apply Array.toList_inj.mp
   refine List.ext_getElem (by simp) fun i a1 a2=>?_
   simp at a1
   simp[a1]
 ·rw[if_neg hs,if_neg hs]
  have xQ:2≤vs.length:=by
   have:¬vs.length<2:=by simpa using hs
   omega
  obtain⟨fs,q1,q2,q3⟩:=t3.firsts (M:=model prog w)
  refine wpAny_bind (kat_kind q1 (by omega) q3 rfl ?_)
  have hb:Lt vs.length (fun i j=>di (ks.getD i []) (ks.getD j [])):=⟨fun i j k=>r_ _ _ _,fun i j=>jN _ _,fun i j hi hj xO=>nS _ _ fun z=>xO (by
   rw[ht.len] at hi hj
   rw[List.getD_eq_getElem?_getD,List.getD_eq_getElem?_getD,List.getElem?_eq_getElem hi,List.getElem?_eq_getElem hj] at z
   exact Bs hd hi hj (by simpa using z))⟩
  obtain⟨r1,r2⟩:=Cy hb xQ
  have run:=kat_run (prog:=prog) (w:=w) (A:=A) (E:=E) (ks:=vs) (vs:=vs) (κ:=tuples' true) (Q:=fun st s'=>s'={s with heap:=((s.heap.update a (Obj.mapSeq fun _=>(#[]:Array Value))).push (seqObj "tuple" vs.toArray 0)).push (seqObj "list" #[] 0)}∧∃p,PN vs.length p∧Ri (fun i j=>di (ks.getD i []) (ks.getD j [])) p vs.length∧(arrOf st).map (·.2)=List.toArray (p.toList.map fun i=>vs.getD i Value.none)∧failedOf st=none)
   (G:=fun p s'=>s'={s with heap:=((s.heap.update a (Obj.mapSeq fun _=>(#[]:Array Value))).push (seqObj "tuple" vs.toArray 0)).push (seqObj "list" #[] 0)}∧PN vs.length p∧Ri (fun i j=>di (ks.getD i []) (ks.getD j [])) p vs.length) rfl xQ HJ
   (fun p oZ s' a1 a2 a3 a4=>⟨a4.1,p,a4.2.1,a4.2.2,kat_snds rfl a2,a3⟩)
   (wp_run (s:={s with heap:=((s.heap.update a (Obj.mapSeq fun _=>(#[]:Array Value))).push (seqObj "tuple" vs.toArray 0)).push (seqObj "list" #[] 0)}) (fun i j C hi hj hC=>asked t3 i j C hi hj hC) (yC (by omega)) ⟨rfl,r1,r2⟩)
  refine wpAny_bind (wpAny_mono run ?_ fun _ _ e=>e)
  rintro⟨⟨⟩,oZ⟩ s' ⟨rfl,p,a1,a2,a3,a4⟩
  exact fin oZ p a1 a2 a3 a4
end
section
variable{prog:Program}{w:World}{A:Around}{E:Value→Shared→Prop}{s:Shared}
theorem qp{d:Addr}{od:Obj}{es:Array DictEntry}{ep:Nat}{Q:Value→Shared→Prop}(lo:(d==sysModules)=false)(ho:s.heap.get? d=some od)(hx:od.ExactDict)(hd:od.data= .dict es ep)
 (hQ:Q (.ref s.heap.objs.size) {s with heap:=s.heap.push {cls:= .type "dict_keyiterator",data:= .fields #[.ref d, .int 0 0, .int es.size 0, .int ep 0]} }):wpAny (model prog w) A (pyIter (.ref d)) Q E s:=by
 have hT:s.TypeIs (.ref d) "dict":=⟨od,ho,hx.1⟩
 refine wpAny_pyIter_slot hT F.slot_dict_iter (wpAny_call_entry F.slot_dict_iter hT F.entry_dict_iter ?_ (F.args_dict_iter_1 _))
 unfold Builtin.«dict.__iter__» Builtin.Dict.dictSlotNone
 refine wpAny_bind (wpAny_bind (wpAny_notOrdered_dict hT ?_))
 show wpAny _ _ (pure (Value.ref d)) _ _ s
 refine wpAny_pure ?_
 show wpAny _ _ (Builtin.Dict.showsAll d>>=_) _ _ s
 unfold Builtin.Dict.showsAll
 rw[if_neg (by rw[lo];exact Bool.false_ne_true)]
 refine wpAny_bind (wpAny_pure (wpAny_bind (wpAny_dictEntries ho hd (wpAny_bind (wpAny_dictEpoch ho hd ?_)))))
 refine wpAny_bind (wpAny_newObj_type (wpAny_pure ⟨_,rfl,"dict_keyiterator",_,⟨_,Heap.get?_push_size _ rfl,rfl⟩,F.slot_dict_keyiterator_next.lookup,?_⟩))
 simpa[rawInt] using hQ
theorem uE{it d:Addr}{od:Obj}{es:Array DictEntry}{i ep:Nat}{e:DictEntry}{Q:Option Value→Shared→Prop}(hit:s.heap.IsKeyIter it d i es.size ep)(y4:s.heap.get? d=some od)(mC:od.data= .dict es ep)(hx:es[i]? =some e)
 (hQ:∀h',h'.IsKeyIter it d (i+1) es.size ep→Heap.SameBut it s.heap h'→Q (some e.key) {s with heap:=h'}):wpAny (model prog w) A (pyNext (.ref it)) Q E s:=by
 obtain⟨o,ho,hc,hd⟩:=id hit
 have dP:i<es.size:=(Array.getElem?_eq_some_iff.mp hx).1
 have Ge:Builtin.Dict_items.ownsTuple "dict_keyiterator"=false:=by decide
 unfold pyNext
 refine wpAny_bind (wpAny_attempt (wpAny_callSpecial?_slot (name:=Str.ofString "__next__") hit.typeIs F.slot_dict_keyiterator_next
  (wpAny_call_entry F.slot_dict_keyiterator_next hit.typeIs F.entry_dict_keyiterator_next ?_ (F.args_dict_keyiterator_next_1 _))))
 refine wpAny_bind (wpAny_pure (wpAny_bind (wpAny_bind ?_)))
 first | refine wpAny_bind (wpAny_typeNameOfWhole_keyiter hit.typeIs (wpAny_pure ?_)) | refine wpAny_bind (wpAny_typeNameOf_keyiter hit.typeIs (wpAny_pure ?_))
 refine wpAny_bind (wpAny_fieldsOf ho hd ?_)
 simp only[Ge,Bool.false_eq_true,if_false]
 show wpAny _ _ (if (Value.ref d==Value.none)=true then _ else _) _ _ s
 rw[if_neg (show¬((Value.ref d==Value.none)=true) from Bool.false_ne_true)]
 refine wpAny_bind (wpAny_pure (wpAny_bind (wpAny_dictEntries y4 mC ?_)))
 rw[if_neg (by simp)]
 refine wpAny_bind (wpAny_pure (wpAny_bind (wpAny_dictEpoch y4 mC ?_)))
 rw[if_neg (by simp)]
 refine wpAny_pure ?_
 simp only[show¬((i:Int)<0) from by omega,if_false,Int.toNat_natCast,hx]
 refine wpAny_bind ?_
 first | refine wpAny_bind (wpAny_typeNameOfWhole_keyiter hit.typeIs (wpAny_pure ?_)) | refine wpAny_bind (wpAny_typeNameOf_keyiter hit.typeIs (wpAny_pure ?_))
 refine wpAny_bind (wpAny_isOneOf_keyiter hit.typeIs ?_)
 show wpAny _ _ (setField (.ref it) 1 (rawInt ((i:Int)+1))>>=_) _ _ s
 refine wpAny_bind (wpAny_setField ho hd (by simp) ?_)
 have yZ:(s.heap.update it (Obj.mapFields (·.setIfInBounds 1 (rawInt ((i:Int)+1))))).IsKeyIter it d (i+1) es.size ep:=
  ⟨_,Heap.get?_update_self _ ho (Obj.isFreed_of_fields (Obj.data_mapFields hd _)),(Obj.cls_mapFields ..).trans hc,by rw[Obj.data_mapFields hd];simp[rawInt]⟩
 refine wpAny_bind (wpAny_holding (wpAny_bind (wpAny_isOneOf_keyiter (s:={s with heap:=s.heap.update it (Obj.mapFields (·.setIfInBounds 1 (rawInt ((i:Int)+1))))}) yZ.typeIs ?_)))
 show wpAny _ _ (pure e.key) _ _ _
 exact wpAny_pure (wpAny_pure ⟨_,rfl,wpAny_pure (hQ _ yZ (Heap.SameBut.update ..))⟩)
theorem qb{it d:Addr}{od:Obj}{es:Array DictEntry}{ep i:Nat}{Q:Option Value→Shared→Prop}(hh:A.handled=none)(hit:s.heap.IsKeyIter it d i es.size ep)(hi:es.size≤i)(y4:s.heap.get? d=some od)(mC:od.data= .dict es ep)
 (hQ:∀h',Heap.ExtBut it s.heap h'→Q none {s with heap:=h'}):wpAny (model prog w) A (pyNext (.ref it)) Q E s:=by
 obtain⟨o,ho,hc,hd⟩:=id hit
 have Ge:Builtin.Dict_items.ownsTuple "dict_keyiterator"=false:=by decide
 unfold pyNext
 refine wpAny_bind (wpAny_attempt (wpAny_callSpecial?_slot (name:=Str.ofString "__next__") hit.typeIs F.slot_dict_keyiterator_next
  (wpAny_call_entry F.slot_dict_keyiterator_next hit.typeIs F.entry_dict_keyiterator_next ?_ (F.args_dict_keyiterator_next_1 _))))
 refine wpAny_bind (wpAny_pure (wpAny_bind (wpAny_bind ?_)))
 first | refine wpAny_bind (wpAny_typeNameOfWhole_keyiter hit.typeIs (wpAny_pure ?_)) | refine wpAny_bind (wpAny_typeNameOf_keyiter hit.typeIs (wpAny_pure ?_))
 refine wpAny_bind (wpAny_fieldsOf ho hd ?_)
 simp only[Ge,Bool.false_eq_true,if_false]
 show wpAny _ _ (if (Value.ref d==Value.none)=true then _ else _) _ _ s
 rw[if_neg (show¬((Value.ref d==Value.none)=true) from Bool.false_ne_true)]
 refine wpAny_bind (wpAny_pure (wpAny_bind (wpAny_dictEntries y4 mC ?_)))
 rw[if_neg (by simp)]
 refine wpAny_bind (wpAny_pure (wpAny_bind (wpAny_dictEpoch y4 mC ?_)))
 rw[if_neg (by simp)]
 refine wpAny_pure ?_
 simp only[show¬((i:Int)<0) from by omega,if_false,Int.toNat_natCast,Array.getElem?_eq_none hi]
 refine wpAny_bind ?_
 first | refine wpAny_bind (wpAny_typeNameOfWhole_keyiter hit.typeIs (wpAny_pure ?_)) | refine wpAny_bind (wpAny_typeNameOf_keyiter hit.typeIs (wpAny_pure ?_))
 show wpAny _ _ (setField (.ref it) 0 .none>>=_) _ _ s
 refine wpAny_bind (wpAny_setField ho hd (by simp) ?_)
 show wpAny _ _ (newExc (.type "StopIteration") []>>=_) _ _ _
 refine wpAny_bind ?_
 simp only[newExc,newTuple]
 refine wpAny_bind (wpAny_newObj_type ?_ (by size_fits))
 refine wpAny_bind (m:=firstArgMember _ _) (wpAny_of_eq (a:=Value.none) (by first | rfl | (simp only[firstArgMember];rfl)) ?_)
 refine wpAny_newObj_type ?_ (by size_fits)
 simp only[raiseNew]
 refine wpAny_bind (wpAny_handled ?_)
 rw[show A.in1.handled=none from hh]
 refine wpAny_bind (wpAny_pure (wpAny_throw ?_))
 refine wpAny_bind (wpAny_isInstance (T:="StopIteration") (b:=true) ⟨_,Heap.get?_push_size _ rfl,rfl⟩ isSubtype_stop ?_)
 exact wpAny_pure (hQ _ (((Heap.SameBut.update ..).extBut.push _).push _))
theorem AA{it d:Addr}{od:Obj}{es:Array DictEntry}{ep:Nat}{Q:Option Value→Shared→Prop}(hh:A.handled=none)(hit:s.heap.IsKeyIter it d es.size es.size ep)(y4:s.heap.get? d=some od)(mC:od.data= .dict es ep)
 (hQ:∀h',Heap.ExtBut it s.heap h'→Q none {s with heap:=h'}):wpAny (model prog w) A (pyNext (.ref it)) Q E s:=qb hh hit (Nat.le_refl _) y4 mC hQ
def EL(es:Array DictEntry):Nat→Value→Prop:=fun i v=>∃e,es[i]? =some e∧v=e.key
theorem xi(hh:A.handled=none)(I d:Addr)(fL:d≠I){od:Obj}{es:Array DictEntry}{ep:Nat}(mC:od.data= .dict es ep):
 Walks prog w A I [I,d] [I] es.size (EL es) (fun i h=>h.IsKeyIter I d i es.size ep∧h.get? d=some od) where
 sub:=fun b hb=>by simp at hb;simp[hb]
 frame:=fun _ _ _ st hk=>⟨st.1.at fun o e=>hk I (by simp) o e,hk d (by simp) _ st.2⟩
 item:=fun i s Q E hi st hQ=>by
  have hx:es[i]? =some es[i]:=Array.getElem?_eq_getElem hi
  exact uE st.1 st.2 mC hx fun h' yZ rY=>hQ _ h' s.toks ⟨_,hx,rfl⟩ ⟨yZ,(rY.2 d fL).trans st.2⟩ fun b o hb e=>rY.extBut b o (fun h=>hb (by simp[h])) e
 done:=fun s Q E st hQ=>AA hh st.1 st.2 mC fun h' K8=>hQ h' s.toks fun b o hb e=>K8 b o (fun h=>hb (by simp[h])) e
 self:=fun _ _ _ _ st hQ=>wpAny_pyIter_keyiter st.1 hQ
theorem Cz{d:Addr}{od:Obj}{es:Array DictEntry}{ep:Nat}(lo:(d==sysModules)=false)(hx:od.ExactDict)(mC:od.data= .dict es ep):KdlSrc prog w "dict" d d es.size (EL es) (fun h=>h.get? d=some od) where
 type:=fun _ hm=>⟨od,hm,hx.1⟩
 there:=fun _ hm=>⟨Heap.lt_size hm,Heap.lt_size hm⟩
 keep:=fun _ _ hm hk=>hk d (.inl rfl) od hm
 notList:=by decide
 notTuple:=by decide
 hint:=fun _ _ s _ hm hq=>kdl_hint_dict ⟨od,hm,hx.1⟩ hq
 iter:=fun _ _ hh hm=>⟨_,_,(fun _ _ hq=>qp lo hm hx mC hq),xi hh _ d (Nat.ne_of_lt (Heap.lt_size hm)) mC,⟨⟨_,Heap.get?_push_size _ rfl,rfl,rfl⟩,Heap.get?_push_of_some _ hm⟩⟩
end
end L3
namespace L3
open PySem
def insI(k:List Int):List (List Int)→List (List Int)
 |[]=>[k]
 |x::r=>if di k x then k::x::r else x::insI k r
def sortI:List (List Int)→List (List Int)
 |[]=>[]
 |k::r=>insI k (sortI r)
def vI(l:List (List Int)):Prop:=l.Pairwise fun a b=>di a b=true
theorem nE{k x:List Int}:∀{l:List (List Int)},x∈insI k l↔x=k∨x∈l
 |[]=>by simp[insI]
 |y::r=>by
  unfold insI
  split
  ·simp
  ·rw[List.mem_cons,nE,List.mem_cons]
   constructor
   ·rintro(h | h | h)<;>simp[h]
   ·rintro(h | h | h)<;>simp[h]
theorem qk{k:List Int}:∀{l:List (List Int)},vI l→k∉l→vI (insI k l)
 |[],_,_=>List.pairwise_singleton _ _
 |x::r,h,hk=>by
  have h:=List.pairwise_cons.mp h
  unfold insI
  split
  ·rename_i q
   refine List.pairwise_cons.mpr ⟨fun y hy=>?_,List.pairwise_cons.mpr h⟩
   rcases List.mem_cons.mp hy with rfl | hy
   ·exact q
   ·exact r_ _ _ _ q (h.1 y hy)
  ·rename_i q
   have hx:di x k=true:=by
    rcases nS k x (fun z=>hk (by rw[z];exact List.mem_cons_self ..)) with z | z
    ·exact absurd z q
    ·exact z
   refine List.pairwise_cons.mpr ⟨fun y hy=>?_,qk h.2 fun z=>hk (List.mem_cons_of_mem _ z)⟩
   rcases nE.mp hy with rfl | hy
   ·exact hx
   ·exact h.1 y hy
theorem cM{x:List Int}:∀{l:List (List Int)},x∈sortI l↔x∈l
 |[]=>Iff.rfl
 |k::r=>by unfold sortI;rw[nE,cM,List.mem_cons]
theorem eR:∀{l:List (List Int)},l.Nodup→vI (sortI l)
 |[],_=>List.Pairwise.nil
 |k::r,h=>by
  have h:=List.nodup_cons.mp h
  exact qk (eR h.2) fun z=>h.1 (cM.mp z)
theorem kc:∀{a b:List (List Int)},vI a→vI b→(∀x,x∈a↔x∈b)→a=b
 |[],[],_,_,_=>rfl
 |[],y::b,_,_,h=>by have:=(h y).mpr (List.mem_cons_self ..);cases this
 |x::a,[],_,_,h=>by have:=(h x).mp (List.mem_cons_self ..);cases this
 |x::a,y::b,ha,hb,h=>by
  have ha:=List.pairwise_cons.mp ha
  have hb:=List.pairwise_cons.mp hb
  have e:x=y:=by
   rcases List.mem_cons.mp ((h x).mp (List.mem_cons_self ..)) with q | q
   ·exact q
   ·rcases List.mem_cons.mp ((h y).mpr (List.mem_cons_self ..)) with p | p
    ·exact p.symm
    ·have z1:=hb.1 x q
     have z2:=ha.1 y p
     rw[jN _ _ z1] at z2
     cases z2
  subst e
  have Ni:∀k,di k k≠true:=fun k z=>by have:=jN _ _ z;rw[z] at this;cases this
  rw[kc ha.2 hb.2 fun z=>?_]
  constructor
  ·intro hz
   rcases List.mem_cons.mp ((h z).mp (List.mem_cons_of_mem _ hz)) with q | q
   ·subst q;exact absurd (ha.1 z hz) (Ni z)
   ·exact q
  ·intro hz
   rcases List.mem_cons.mp ((h z).mpr (List.mem_cons_of_mem _ hz)) with q | q
   ·subst q;exact absurd (hb.1 z hz) (Ni z)
   ·exact q
theorem wO:∀(n:Nat) (l:List Nat),l.Nodup→(∀x∈l,x<n)→l.length=n→∀k,k<n→k∈l
 |0,_,_,_,_,k,hk=>by omega
 |n+1,l,hd,hl,hn,k,hk=>by
  by_cases h:n∈l
  ·by_cases e:k=n
   ·subst e;exact h
   ·refine List.mem_of_mem_erase (wO n (l.erase n) (hd.erase n) (fun x hx=>?_) (by rw[List.length_erase_of_mem h,hn];rfl) k (by omega))
    have hx:=hd.mem_erase_iff.mp hx
    have:=hl x hx.2
    have:=hx.1
    omega
  ·cases l with
   |nil=>simp at hn
   |cons x r=>
    have hd:=List.nodup_cons.mp hd
    have lt:∀y∈x::r,y<n:=fun y hy=>by
     have:=hl y hy
     have:y≠n:=fun z=>h (by rw[←z];exact hy)
     omega
    exact absurd (wO n r hd.2 (fun y hy=>lt y (List.mem_cons_of_mem _ hy)) (by simpa using hn) x (lt x (List.mem_cons_self ..))) hd.1
theorem ly{ks:List (List Int)}{p:Array Nat}(hd:ks.Nodup)(P:PN ks.length p)(R:Ri (fun i j=>di (ks.getD i []) (ks.getD j [])) p ks.length):(p.toList.map fun i=>ks.getD i [])=sortI ks:=by
 have hsz:p.toList.length=ks.length:=by rw[Array.length_toList];exact P.sz
 have CZ:∀i (h:i<p.toList.length),p.toList[i]=at' p i:=fun i h=>by
  have h':i<p.size:=by rw[Array.length_toList] at h;exact h
  rw[dh,Array.getElem?_eq_getElem h']
  simp
 refine kc ?_ (eR hd) fun x=>?_
 ·refine List.pairwise_iff_getElem.mpr fun i j hi hj xO=>?_
  rw[List.length_map] at hi hj
  rw[List.getElem_map,List.getElem_map,CZ i hi,CZ j hj]
  exact R i j xO (by omega)
 ·rw[cM]
  constructor
  ·intro hx
   obtain⟨i,hi,rfl⟩:=List.mem_map.mp hx
   obtain⟨j,hj,rfl⟩:=List.mem_iff_getElem.mp hi
   have:=P.lt j (by omega)
   rw[CZ j hj,List.getD_eq_getElem?_getD,List.getElem?_eq_getElem this]
   exact List.getElem_mem this
  ·intro hx
   obtain⟨k,hk,rfl⟩:=List.mem_iff_getElem.mp hx
   have xR:k∈p.toList:=by
    have hn:p.toList.Nodup:=List.pairwise_iff_getElem.mpr fun i j hi hj xO z=>by
     rw[CZ i hi,CZ j hj] at z
     have:=P.inj i j (by omega) (by omega) z
     omega
    exact wO ks.length p.toList hn (fun x hx=>by
     obtain⟨j,hj,rfl⟩:=List.mem_iff_getElem.mp hx
     rw[CZ j hj]
     exact P.lt j (by omega)) hsz k hk
   refine List.mem_map.mpr ⟨k,xR,?_⟩
   rw[List.getD_eq_getElem?_getD,List.getElem?_eq_getElem hk]
   rfl
end L3
namespace L3
open PySem PySem.Spec L2 SeqAt HT
open PyProof.Rows hiding St
def tupI(k:List Int):D:= .tup (k.map D.int)
def E9:D→Option (List Int)
 | .tup ds=>nums ds
 |_=>none
def eL:List D→Option (List (List Int))
 |[]=>some []
 |d::ds=>match E9 d,eL ds with
  |some k,some ks=>some (k::ks)
  |_,_=>none
def cC(ks:List (List Int)):Bool:=decide ks.Nodup&&decide (ks.length<64)&&ks.all fun k=>!k.isEmpty
def Ez:List D→M D
 |[.lst ds]=>match eL ds with
  |some ks=>if cC ks then M.ret (.lst ((sortI ks).map tupI)) else M.stuck
  |none=>M.stuck
 |_=>M.stuck
def bP(H:Hp):List V→List (List Int)→Prop:=Paired fun v k=>∃a,v= .ref a∧H a=some (.tup (k.map V.int))
theorem kM{K:W.Frag}{F H:Hp}(hs:Same F H):∀{ds:List D}{vs:List V}{ks:List (List Int)},eL ds=some ks→DenL K F ds vs→bP H vs ks∧bP F vs ks
 |[],_,_,e,h=>by cases e;cases (show _=_ from h);exact⟨.nil, .nil⟩
 |d::ds,_,_,e,⟨v,r,h1,h2,h3⟩=>by
  subst h1
  unfold eL at e
  split at e
  ·rename_i k ks e1 e2
   cases e
   obtain⟨LN,LO⟩:=kM hs e2 h3
   cases d with
   |tup es=>
    obtain⟨a,ws,rfl,k2,k3,_⟩:=h2
    have:=jJ e1 k3
    subst this
    exact⟨.cons ⟨a,rfl,hs _ _ k2⟩ LN, .cons ⟨a,rfl,k2⟩ LO⟩
   |_=>cases e1
  ·cases e
theorem j9{K:W.Frag}{F:Hp}:∀{ws:List V}{ks:List (List Int)},bP F ws ks→(∀k∈ks,k.length≤lim)→DenL K F (ks.map tupI) ws
 |_,_, .nil,_=>rfl
 |_,_, .cons (b:=k) h t,hl=>by
  obtain⟨a,rfl,h⟩:=h
  exact .cons ⟨a,_,rfl,h,DenL.ints k,by rw[List.length_map];exact hl k (List.mem_cons_self ..)⟩ (j9 t fun k hk=>hl k (List.mem_cons_of_mem _ hk))
theorem iF{X:Cx}{pins:List (Addr×Obj)}{σ:St}{H:Hp}{s:Shared}(I:Inv X pins σ H s):∀{vs:List V}{aF:List Value}{ks:List (List Int)},bP H vs ks→Vals vs aF→(∀k∈ks,k≠[])→TupsAt s.heap aF ks
 |_,_,_, .nil,r,_=>by cases r;exact trivial
 |_,_,_, .cons (b:=k) h t,r,hn=>by
  obtain⟨a,rfl,h⟩:=h
  cases r with
  |cons r1 r2=>
   cases (show _=_ from r1)
   obtain⟨us,ru,pt,_⟩:=I.tuple (SqT.of (K:=X.K) h)
   obtain⟨o,q1,q2,m,q3⟩:=pt
   exact⟨⟨a,o,us,m,rfl,q1,q2,q3,intsAre_of ru,hn k (List.mem_cons_self ..)⟩,iF I t r2 fun k hk=>hn k (List.mem_cons_of_mem _ hk)⟩
theorem j_{H:Hp}:∀{vs:List V}{ks:List (List Int)}{i:Nat},bP H vs ks→i<vs.length→∃a,vs.getD i .non= .ref a∧H a=some (.tup ((ks.getD i []).map V.int))
 |_,_,i, .nil,hi=>by simp at hi
 |_,_,0, .cons h t,_=>h
 |_,_,i+1, .cons h t,hi=>j_ (i:=i) t (by simpa using hi)
theorem eN{H:Hp}:∀{vs:List V}{ks:List (List Int)},bP H vs ks→vs.length=ks.length
 |_,_, .nil=>rfl
 |_,_, .cons h t=>by rw[List.length_cons,List.length_cons,eN t]
theorem fX{H:Hp}{vs:List V}{ks:List (List Int)}(h:bP H vs ks):∀{is:List Nat},(∀i∈is,i<vs.length)→bP H (is.map fun i=>vs.getD i .non) (is.map fun i=>ks.getD i [])
 |[],_=> .nil
 |i::is,hi=> .cons (j_ h (hi i (List.mem_cons_self ..))) (fX h fun j hj=>hi j (List.mem_cons_of_mem _ hj))
theorem lB:∀{vs:List V}{us:List Value}(i:Nat),Vals vs us→i<vs.length→RelV (vs.getD i .non) (us.getD i Value.none)
 |_,_,i, .nil,hi=>by simp at hi
 |_,_,0, .cons h t,_=>h
 |_,_,i+1, .cons h t,hi=>lB i t (by simpa using hi)
theorem iJ{vs:List V}{us:List Value}(h:Vals vs us):∀{is:List Nat},(∀i∈is,i<vs.length)→Vals (is.map fun i=>vs.getD i .non) (is.map fun i=>us.getD i Value.none)
 |[],_=> .nil
 |i::is,hi=> .cons (lB i h (hi i (List.mem_cons_self ..))) (iJ h fun j hj=>hi j (List.mem_cons_of_mem _ hj))
def Ma(K:W.Frag):List V→Hp→VK→Prop:=fun xs H Q=>∃p vs ks,xs=[.ref p]∧SqL K H p vs∧bP H vs ks∧cC ks=true∧∀(q:Addr) (is:List Nat),H q=none→(∀i∈is,i<vs.length)→is.length=vs.length→(is.map fun i=>ks.getD i [])=sortI ks→Q (.ref q) (upd H q (.lst (is.map fun i=>vs.getD i .non)))
section
variable{X:Cx}{Xw:Nat→Hp→Prop}{e:Expr}{δs:DA}{pos p:Pos}
theorem Ak:CallR X (.builtin "sorted") (Ma X.K):=by
 intro pins s σ H xs us Q I r h
 obtain⟨a,vs,ks,rfl,hq,hr,hk,q⟩:=h
 obtain⟨u,rfl,r1⟩:=r.one
 cases (show u=_ from r1)
 obtain⟨aF,rv,pl,hz⟩:=I.list hq
 unfold cC at hk
 rw[Bool.and_eq_true,Bool.and_eq_true] at hk
 have hd:ks.Nodup:=of_decide_eq_true hk.1.1
 have HJ:ks.length<64:=of_decide_eq_true hk.1.2
 have fL:∀k∈ks,k≠[]:=fun k pq z=>by have:=List.all_eq_true.mp hk.2 k pq;rw[z] at this;cases this
 have xP:=eN hr
 have xQ:=rv.length
 have vE:sizeLine=16777216:=sizeLine_eq
 have ht:=iF I hr rv fL
 refine Calls.call_function_entry kind_sorted plain_sorted entry_sorted (args_sorted1 _) ?_
 unfold Builtin.«sorted»
 refine wpAny_bind (m:=checkCount "sorted" 1 1 _) (wpAny_pure (wpAny_bind (collect_list pl.isList (wpAny_bind (wpAny_newList ?_ (by rw[vE];omega))) (by rw[vE];omega))))
 have hsz:((s.heap.push (seqObj "list" #[] 0)).update s.heap.objs.size (Obj.mapSeq (· ++aF.toArray))).objs.size=s.heap.objs.size+1:=by rw[Heap.size_update,size_push']
 have keep:∀b o,s.heap.get? b=some o→(((s.heap.push (seqObj "list" #[] 0)).update s.heap.objs.size (Obj.mapSeq (· ++aF.toArray))).push (seqObj "list" aF.toArray 0)).get? b=some o:=fun b o e=>by
  have dP:=Heap.lt_size e
  exact Heap.get?_push_of_some _ ((Heap.get?_update_ne _ _ _ _ (Nat.ne_of_lt dP)).trans (Heap.get?_push_of_some _ e))
 have C2:(((s.heap.push (seqObj "list" #[] 0)).update s.heap.objs.size (Obj.mapSeq (· ++aF.toArray))).push (seqObj "list" aF.toArray 0)).get? (s.heap.objs.size+1)=some (seqObj "list" aF.toArray 0):=by
  rw[←hsz];exact Heap.get?_push_size _ rfl
 show wpAny _ _ _ _ _ {s with heap:=((s.heap.push (seqObj "list" #[] 0)).update s.heap.objs.size (Obj.mapSeq (· ++aF.toArray))).push (seqObj "list" aF.toArray 0)}
 rw[hsz]
 refine wpAny_bind (wpAny_holding (wpAny_call_entry slot_list_sort ⟨_,C2,rfl⟩ entry_list_sort (lx (s:={s with heap:=((s.heap.push (seqObj "list" #[] 0)).update s.heap.objs.size (Obj.mapSeq (· ++aF.toArray))).push (seqObj "list" aF.toArray 0)}) C2
  (ht.keep (a:=s.heap.objs.size) (fun b o _ e=>keep b o e) (fun o e=>absurd (Heap.lt_size e) (Nat.lt_irrefl _))) hd (by omega) fun P h' c' hP hR rW ur=>?_) (args_list_sort _)))
 have vZ:∀i∈P.toList,i<vs.length:=fun i hi=>by
  obtain⟨j,hj,rfl⟩:=List.mem_iff_getElem.mp hi
  have h':j<P.size:=by rw[Array.length_toList] at hj;exact hj
  have:=hP.lt j (by rw[hP.sz] at h';exact h')
  rw[dh,Array.getElem?_eq_getElem h'] at this
  have e:P.toList[j]=P[j]:=by simp
  rw[e]
  have:P[j]<aF.length:=this
  omega
 have FL:PN ks.length P:=by rw[←xP,xQ];exact hP
 have Iw:Ri (fun i j=>di (ks.getD i []) (ks.getD j [])) P ks.length:=by rw[←xP,xQ];exact hR
 have E7:=ly hd FL Iw
 have FX:H (s.heap.objs.size+1)=none:=I.hok.fresh (Nat.le_succ _)
 refine⟨_,rfl,wpAny_pure ⟨_,rfl,⟨.ref (s.heap.objs.size+1),_,I.laid (a:=s.heap.objs.size+1) (t':=s.toks) (o:= .lst (P.toList.map fun i=>vs.getD i .non)) (fun b ob e=>ur b ob (Nat.ne_of_lt (Nat.lt_succ_of_lt (Heap.lt_size e))) (keep b ob e)) (Nat.le_succ _) ?_,rfl,q _ P.toList FX vZ (by rw[Array.length_toList,hP.sz];omega) E7⟩⟩⟩
 exact⟨by rw[List.length_map,Array.length_toList,hP.sz,vE];omega,_,c',iJ rv vZ,rW⟩
theorem kN{K:W.Frag}{F:Hp}:∀{ds:List D}{vs:List V}{ks:List (List Int)},eL ds=some ks→DenL K F ds vs→∀k∈ks,k.length≤lim
 |[],_,_,e,_=>by cases e;exact fun k hk=>by cases hk
 |d::ds,_,_,e,⟨v,r,h1,h2,h3⟩=>by
  unfold eL at e
  split at e
  ·rename_i k ks e1 e2
   cases e
   intro k' pq
   rcases List.mem_cons.mp pq with rfl | pq
   ·cases d with
    |tup es=>
     obtain⟨a,ws,rfl,k2,k3,k4⟩:=h2
     have:=jJ e1 k3
     have hl:=k3.len
     rw[this,List.length_map] at hl
     omega
    |_=>cases e1
   ·exact kN e2 h3 k' pq
  ·cases e
theorem iG:∀l:List (List Int),(sortI l).length=l.length
 |[]=>rfl
 |k::r=>by
  have ins:∀(k:List Int) (l:List (List Int)),(insI k l).length=l.length+1:=by
   intro k l
   induction l with
   |nil=>rfl
   |cons x l ih=>
    unfold insI
    split
    ·rfl
    ·rw[List.length_cons,ih,List.length_cons]
  unfold sortI
  rw[ins,iG r,List.length_cons]
theorem GW(hg:Gl X "sorted")(hm:X.mg "sorted"=none)(hb:bootBuiltins "sorted"=some (.builtin "sorted"))(ha:mV X Xw [e] δs)(he:starEach [e] X.env=[(false,eval e X.env)]:=by rfl):PD X Xw (.Call (.Name "sorted" p) [e] [] pos) (dA Ez δs):=
 dq Ak (fun Xw F H vs ds Q s h w=>by
  unfold Ez at w
  split at w
  ·rename_i ds
   obtain⟨v,rfl,h1⟩:=h.one
   obtain⟨a,ws,rfl,h2,h3,h4⟩:=h1
   split at w
   ·rename_i ks FY
    split at w
    ·rename_i hok
     obtain⟨r1,r2⟩:=kM s FY h3
     have OB:=kN FY h3
     refine⟨a,ws,ks,rfl,SqL.of (s _ _ h2),r1,hok,fun q is hq hi hl hs=>WP.fin w (Ext.lay s hq) ⟨q,_,rfl,az,DenL.mono (Ext.lay s hq).ff ?_,?_⟩⟩
     ·have:=fX r2 hi
      rw[hs] at this
      exact j9 this fun k hk=>OB k (cM.mp hk)
     ·rw[List.length_map,iG,←eN r1,←h3.len]
      exact h4
    ·exact w.elim
   ·exact w.elim
  ·exact w.elim) hg hm hb ha (by decide) (by decide) he rfl
end
def nO(k:List Int):List Key:=k.map Sum.inl
def JI:List V→Hp→VK→Prop:=fun xs H Q=>∃p aw ks,xs=[.ref p]∧Rd H p (.dT aw)∧aw.map (·.1)=ks.map nO∧cC ks=true∧∀(q:Addr) (ws:List V),H q=none→bP H ws (sortI ks)→Q (.ref q) (upd H q (.lst ws))
theorem qt{H:Hp}:∀{aw:List (List Key×V)}{xs:List (List Key×Addr×Value)}{ks:List (List Int)},Paired (fun (p:List Key×V) (q:List Key×Addr×Value)=>p.1=q.1∧H q.2.1=some (.tup (p.1.map kV))∧RelV p.2 q.2.2) aw xs→
 aw.map (·.1)=ks.map nO→bP H (xs.map fun x=>V.ref x.2.1) ks
 |_,_,[], .nil,_=> .nil
 |_,_,_::_, .nil,e=>by simp at e
 |_,_,[], .cons h t,e=>by simp at e
 |_,_,k::ks, .cons h t,e=>by
  rw[List.map_cons,List.map_cons] at e
  injection e with e1 e2
  refine .cons ⟨_,rfl,?_⟩ (qt t e2)
  have hk:(nO k).map kV=k.map V.int:=by unfold nO;rw[List.map_map];rfl
  rw[h.2.1,e1,hk]
section
variable{X:Cx}{Xw:Nat→Hp→Prop}{e:Expr}{δs:DA}{pos p:Pos}
theorem yM(hc:X.calm=true):CallR X (.builtin "sorted") JI:=by
 intro pins s σ H xs us Q I r h
 obtain⟨a,aw,ks,rfl,hH,Dv,hk,q⟩:=h
 obtain⟨u,rfl,r1⟩:=r.one
 cases (show u=_ from r1)
 obtain⟨z,lo,xs,rel,o,es,ep,g1,g2,g3,g4,g5⟩:=(show ObjOk X.prog X.w H s.heap a (.dT aw) from hH.ok I.hok)
 unfold cC at hk
 rw[Bool.and_eq_true,Bool.and_eq_true] at hk
 have hd:ks.Nodup:=of_decide_eq_true hk.1.1
 have HJ:ks.length<64:=of_decide_eq_true hk.1.2
 have fL:∀k∈ks,k≠[]:=fun k pq z=>by have:=List.all_eq_true.mp hk.2 k pq;rw[z] at this;cases this
 have hr:=qt rel Dv
 have xP:=eN hr
 rw[List.length_map] at xP
 have Ka:es.size=xs.length:=by rw[←Array.length_toList,g4,List.length_map]
 have vE:sizeLine=16777216:=sizeLine_eq
 refine Calls.call_function_entry kind_sorted plain_sorted entry_sorted (args_sorted1 _) ?_
 unfold Builtin.«sorted»
 refine wpAny_bind (m:=checkCount "sorted" 1 1 _) (wpAny_pure (wpAny_bind (PySem.W.kdu_collect (A:=X.A.in1) (Cz lo g2 g3) (I.ok.hd hc) g1 (by rw[Ka,vE];omega) fun h1 tk acc Ba pD=>?_)))
 have IC:acc.toList.length=xs.length:=by rw[Array.length_toList,←Ka];exact pD.1
 have I1:Inv X pins σ H {s with heap:=h1,toks:=tk}:=I.kept (t':=tk) fun b ob e=>Ba b ob e
 have rv:Vals (xs.map fun x=>V.ref x.2.1) acc.toList:=by
  have ext:∀{vs:List V}{us:List Value},vs.length=us.length→(∀(i:Nat) (v:V) (u:Value),vs[i]? =some v→us[i]? =some u→RelV v u)→Vals vs us:=by
   intro vs
   induction vs with
   |nil=>intro us h _;cases us with | nil=>exact .nil | cons _ _=>simp at h
   |cons v vs ih=>
    intro us h hh
    cases us with
    |nil=>simp at h
    |cons u us=>exact .cons (hh 0 v u rfl rfl) (ih (by simpa using h) fun i v u h1 h2=>hh (i+1) v u h1 h2)
  refine ext (by rw[List.length_map,IC]) fun i v u e1 e2=>?_
  rw[Array.getElem?_toList] at e2
  obtain⟨en,q1,q2⟩:=pD.2 i u e2
  rw[←Array.getElem?_toList,g4,List.getElem?_map] at q1
  rw[List.getElem?_map] at e1
  cases w:xs[i]? with
  |none=>rw[w] at e1;cases e1
  |some x=>
   rw[w] at e1 q1
   cases e1
   cases q1
   exact q2
 have ht:=iF I1 hr rv fL
 refine wpAny_bind (wpAny_newList ?_ (by rw[vE];omega))
 have C2:(h1.push (seqObj "list" acc.toList.toArray 0)).get? h1.objs.size=some (seqObj "list" acc.toList.toArray 0):=Heap.get?_push_size _ rfl
 refine wpAny_bind (wpAny_holding (wpAny_call_entry slot_list_sort ⟨_,C2,rfl⟩ entry_list_sort (lx (s:={s with heap:=h1.push (seqObj "list" acc.toList.toArray 0),toks:=tk}) C2
  (ht.keep (a:=h1.objs.size) (fun b o _ e=>Heap.get?_push_of_some _ e) (fun o e=>absurd (Heap.lt_size e) (Nat.lt_irrefl _))) hd (by omega) fun P h' c' hP hR rW ur=>?_) (args_list_sort _)))
 have vZ:∀i∈P.toList,i<(xs.map fun x=>V.ref x.2.1).length:=fun i hi=>by
  obtain⟨j,hj,rfl⟩:=List.mem_iff_getElem.mp hi
  have h':j<P.size:=by rw[Array.length_toList] at hj;exact hj
  have:=hP.lt j (by rw[hP.sz] at h';exact h')
  rw[dh,Array.getElem?_eq_getElem h'] at this
  have e:P.toList[j]=P[j]:=by simp
  rw[e,List.length_map]
  have:P[j]<acc.toList.length:=this
  omega
 have FL:PN ks.length P:=by rw[←xP,←IC];exact hP
 have Iw:Ri (fun i j=>di (ks.getD i []) (ks.getD j [])) P ks.length:=by rw[←xP,←IC];exact hR
 have E7:=ly hd FL Iw
 have I_:=fX hr vZ
 rw[E7] at I_
 refine⟨_,rfl,wpAny_pure ⟨_,rfl,⟨.ref h1.objs.size,_,I1.laid (a:=h1.objs.size) (t':=tk) (o:= .lst (P.toList.map fun i=>(xs.map fun x=>V.ref x.2.1).getD i .non)) (fun b ob e=>ur b ob (Nat.ne_of_lt (Heap.lt_size e)) (Heap.get?_push_of_some _ e)) (Nat.le_refl _) ?_,rfl,q _ _ (I1.hok.fresh (Nat.le_refl _)) I_⟩⟩⟩
 exact⟨by rw[List.length_map,Array.length_toList,hP.sz,vE];omega,_,c',iJ rv vZ,rW⟩
theorem qZ{F F':Hp}(e:Same F F'):∀{ws:List V}{ks:List (List Int)},bP F ws ks→bP F' ws ks
 |_,_, .nil=> .nil
 |_,_, .cons ⟨b,q1,q2⟩ t=> .cons ⟨b,q1,e _ _ q2⟩ (qZ e t)
theorem oO{F H:Hp}(hs:Same F H):∀{ws:List V}{ks:List (List Int)},bP H ws ks→∃F',Ext F H F' H∧bP F' ws ks
 |_,_, .nil=>⟨F,Ext.refl hs, .nil⟩
 |_,_, .cons h t=>by
  obtain⟨a,rfl,h⟩:=h
  obtain⟨F1,e1,r1⟩:=oO hs t
  have e2:=Ext.tup (F:=F1) e1.fh h
  refine⟨_,e1.trans e2, .cons ⟨a,rfl,az⟩ ?_⟩
  exact qZ e2.ff r1
def ql:List Key→Option (List Int)
 |[]=>some []
 | .inl i::r=>(ql r).map (i:: ·)
 |_=>none
def eK:List (List Key)→Option (List (List Int))
 |[]=>some []
 |k::r=>match ql k,eK r with
  |some x,some xs=>some (x::xs)
  |_,_=>none
theorem uw:∀{k:List Key}{x:List Int},ql k=some x→k=nO x
 |[],_,e=>by cases e;rfl
 | .inl i::r,_,e=>by
   unfold ql at e
   cases q:ql r with
   |none=>rw[q] at e;cases e
   |some y=>rw[q] at e;cases e;rw[uw q];rfl
 | .inr _::r,_,e=>by cases e
theorem kL:∀{kk:List (List Key)}{ks:List (List Int)},eK kk=some ks→kk=ks.map nO
 |[],_,e=>by cases e;rfl
 |k::r,_,e=>by
  unfold eK at e
  split at e
  ·rename_i x xs e1 e2
   cases e
   rw[List.map_cons,←uw e1,←kL e2]
  ·cases e
def rh:List D→M D
 |[.dct kk ds]=>match eK kk with
  |some ks=>if cC ks&&ks.all (fun k=>decide (k.length≤lim)) then M.ret (.lst ((sortI ks).map tupI)) else M.stuck
  |none=>M.stuck
 |_=>M.stuck
theorem iL{α β:Type}:∀{a:List α}{b:List β},a.length=b.length→(a.zip b).map (·.1)=a
 |[],[],_=>rfl
 |x::a,y::b,h=>by rw[List.zip_cons_cons,List.map_cons,iL (by simpa using h)]
 |[],_::_,h=>by simp at h
 |_::_,[],h=>by simp at h
theorem D_(hc:X.calm=true)(hg:Gl X "sorted")(hm:X.mg "sorted"=none)(hb:bootBuiltins "sorted"=some (.builtin "sorted"))(ha:mV X Xw [e] δs)(he:starEach [e] X.env=[(false,eval e X.env)]:=by rfl):PD X Xw (.Call (.Name "sorted" p) [e] [] pos) (dA rh δs):=
 dq (yM hc) (fun Xw F H vs ds Q s h w=>by
  unfold rh at w
  split at w
  ·rename_i kk ds
   obtain⟨v,rfl,h1⟩:=h.one
   obtain⟨a,ob,ws,rfl,h2,h3,h4,h5⟩:=h1
   split at w
   ·rename_i ks FY
    split at w
    ·rename_i hok
     rw[Bool.and_eq_true] at hok
     have hl:∀k∈ks,k.length≤lim:=fun k hk=>of_decide_eq_true (List.all_eq_true.mp hok.2 k hk)
     have HJ:ks.length<64:=by
      have:=hok.1
      unfold cC at this
      rw[Bool.and_eq_true,Bool.and_eq_true] at this
      exact of_decide_eq_true this.1.2
     refine⟨a,_,ks,rfl, .inr ⟨ob,s _ _ h2⟩,by rw[iL (by rw[h4];exact h3.len),kL FY],hok.1,fun q us hq hr=>?_⟩
     obtain⟨F1,e1,r1⟩:=oO s hr
     have e2:=Ext.lay (o:= .lst us) e1.fh hq
     exact WP.fin w (e1.trans e2) ⟨q,_,rfl,az,DenL.mono e2.ff (j9 r1 fun k hk=>hl k (cM.mp hk)),by rw[List.length_map,iG];unfold lim;omega⟩
    ·exact w.elim
   ·exact w.elim
  ·exact w.elim) hg hm hb ha (by decide) (by decide) he rfl
end
end L3
namespace L3
open PySem PySem.Spec L2
open PyProof.Rows hiding St
def orM{α:Type}(a b:M α):M α:=match a with
 |none=>b
 |some r=>some r
def Gh(a b:DA):DA:=fun ρ=>orM (a ρ) (b ρ)
section
variable{X:Cx}{Xw:Nat→Hp→Prop}{e tg:Expr}{es:List Expr}{δ δ':DE}{δi δi' δs:DA}{τ:DT}
theorem Ea(h:yy X Xw tg e δi)(h':yy X Xw tg e δi'):yy X Xw tg e (Gh δi δi'):=fun pins s σ H Q I ⟨F,ρ,S,w⟩=>by
 unfold Gh orM at w
 cases q:δi ρ with
 |none=>rw[q] at w;exact h' pins s σ H Q I ⟨F,ρ,S,w⟩
 |some r=>rw[q] at w;exact h pins s σ H Q I ⟨F,ρ,S,by rw[q];exact w⟩
theorem fU{st:Stmt}:fE X Xw st (fun _=>M.stuck):=fun F₀ H₀ pins s σ H D I ⟨F,ρ,S,w⟩=>w.elim
end
def fgt:List Nat→aY→aY
 |[],ρ=>ρ
 |i::is,ρ=>fgt is (ρ.set i none)
def Jq(f:aY→aY):Out→M Out
 | .nx ρ=>M.ret (.nx (f ρ))
 | .rt d=>M.ret (.rt d)
def du(is:List Nat)(τ:DS):DS:=fun ρ=>τ ρ>>=Jq (fgt is)
theorem StOk.fgt1{K:W.Frag}{F₀ H₀ F H:Hp}{σ:St}{ρ:aY}(s:StOk K F₀ H₀ F H σ ρ)(i:Nat):StOk K F₀ H₀ F H σ (ρ.set i none):=by
 have get:∀(j:Nat) (sl:Sl),(ρ.set i none)[j]? =some (some sl)→ρ[j]? =some (some sl):=fun j sl e=>by
  by_cases hj:j=i
  ·subst hj
   by_cases hl:j<ρ.length
   ·rw[List.getElem?_set_self hl] at e;cases e
   ·rw[List.getElem?_eq_none (by simpa using hl)] at e;cases e
  ·rw[List.getElem?_set_ne (Ne.symm hj)] at e;exact e
 exact⟨s.ext,⟨s.st.fh,fun j sl e=>s.st.den j sl (get j sl e)⟩,by simp[s.len],fun j c a e e'=>s.own j c a (get j _ e) e',fun j k c c' a e1 e2 e3 e4=>s.sep j k c c' a (get j _ e1) (get k _ e2) e3 e4⟩
theorem StOk.fgt{K:W.Frag}{F₀ H₀ F H:Hp}{σ:St}:∀(is:List Nat) {ρ:aY},StOk K F₀ H₀ F H σ ρ→StOk K F₀ H₀ F H σ (L3.fgt is ρ)
 |[],_,s=>s
 |i::is,_,s=>StOk.fgt is (s.fgt1 i)
theorem WPS.fgt{K:W.Frag}{Xw:Nat→Hp→Prop}{F₀ H₀:Hp}{is:List Nat}{m:M Out}{Dn:Ends}(w:WPS K Xw F₀ H₀ (m>>=Jq (L3.fgt is)) Dn):WPS K Xw F₀ H₀ m Dn:=by
 match m,w with
 |none,w=>exact w
 |some (.ok (.nx ρ)),w=>exact fun σ F H s=>w σ F H (s.fgt is)
 |some (.ok (.rt d)),w=>exact w
 |some (.ex n),w=>exact w
section
variable{X:Cx}{Xw:Nat→Hp→Prop}{st:Stmt}{Nx:List Stmt}{τ:DS}{is:List Nat}
theorem bT(h:PSDs X Xw Nx τ):PSDs X Xw Nx (du is τ):=fun F₀ H₀=>PSs.weak (h F₀ H₀) fun D σ H ⟨F,ρ,s,w⟩=>⟨F,ρ,s,WPS.fgt w⟩
end
def NU:Option Sl→Option Sl
 |some (.ow c)=>some (.fz c.d)
 |x=>x
def yS(ρ:aY):aY:=ρ.map NU
def refA(h:Heap)(P:Addr→Prop)[DecidablePred P](H:Hp):Hp:=fun b=>if P b then(H b).map (gQ ((h.get? b).getD {cls:= .none,data:= .fields #[]})) else H b
theorem vY(ob:Obj)(o:HO):gQ ob o=o∨((∃k,o= .dT k)∨∃k,o= .dK k)∧gQ ob o= .frz ob o:=by
 cases o<;>first | exact .inl rfl | exact .inr ⟨.inl ⟨_,rfl⟩,rfl⟩ | exact .inr ⟨.inr ⟨_,rfl⟩,rfl⟩
section
variable{X:Cx}{pins:List (Addr×Obj)}{σ:St}{H:Hp}{s:Shared}{P:Addr→Prop}[DecidablePred P]
theorem fW{h:Heap}{b:Addr}(e:H b=none):refA h P H b=none:=by
 unfold refA;split
 ·rw[e];rfl
 ·exact e
theorem qY{h:Heap}{b:Addr}{o:HO}(e:H b=some o):refA h P H b=some o∨((∃k,o= .dT k)∨∃k,o= .dK k)∧P b∧refA h P H b=some (.frz ((h.get? b).getD {cls:= .none,data:= .fields #[]}) o):=by
 unfold refA;split
 ·rename_i hp
  rw[e]
  rcases vY ((h.get? b).getD {cls:= .none,data:= .fields #[]}) o with q | ⟨q1,q2⟩
  ·exact .inl (by show some _=_;rw[q])
  ·exact .inr ⟨q1,hp,by show some _=_;rw[q2]⟩
 ·exact .inl e
theorem fV{h:Heap}{b:Addr}{o:HO}(e:H b=some o)(n1:∀k,o≠ .dT k)(n2:∀k,o≠ .dK k):refA h P H b=some o:=by
 rcases qY (P:=P) (h:=h) e with q | ⟨⟨k,q⟩ | ⟨k,q⟩,_⟩
 ·exact q
 ·exact absurd q (n1 k)
 ·exact absurd q (n2 k)
theorem Inv.refA(I:Inv X pins σ H s):Inv X pins σ (L3.refA s.heap P H) s:=by
 have obj:∀b o,H b=some o→((∃k,o=HO.dT k)∨∃k,o= .dK k)→∃ob,s.heap.get? b=some ob:=fun b o e hu=>by
  have hk:=I.hok b o e
  rcases hu with⟨k,h1⟩ | ⟨k,h1⟩
  ·subst h1;obtain⟨_,_,_,_,ob,_,_,q,_⟩:=hk;exact⟨ob,q⟩
  ·subst h1;obtain⟨_,_,_,_,ob,_,_,q,_⟩:=hk;exact⟨ob,q⟩
 refine⟨I.ok,I.os,I.bare,⟨I.base.keep,I.base.slot,fun b q h1 h2 h3=>fW (I.base.free b q h1 h2 h3),I.base.there,fun b xs q=>fV (I.base.tups b xs q) (fun _ z=>nomatch z) (fun _ z=>nomatch z),
  fun b q1 v q=>fV (I.base.frzs b q1 v q) (fun _ z=>nomatch z) (fun _ z=>nomatch z),fun b ps q=>?_⟩,I.loc,I.cell,fW I.free,fun x c q=>fW (I.freeC x c q),fun p hp=>?_,fun b v q=>?_,I.len⟩
 ·obtain⟨m,this⟩:=I.base.tbls b ps q
  exact⟨m,fV this (fun _ z=>nomatch z) (fun _ z=>nomatch z)⟩
 ·obtain⟨h1,h2,h3⟩:=I.pin p hp
  exact⟨h1,fW h2,h3⟩
 ·have st:∀{c:Addr}{v:HO},ObjOk X.prog X.w H s.heap c v→ObjOk X.prog X.w (L3.refA s.heap P H) s.heap c v:=fun {c v} k=>k.stay (fun _ _ _ q=>q)
   (fun c' q=>fV q (fun _ z=>nomatch z) (fun _ z=>nomatch z)) fun c' xs q=>fV q (fun _ z=>nomatch z) (fun _ z=>nomatch z)
  cases e:H b with
  |none=>rw[fW e] at q;cases q
  |some o=>
   rcases qY (P:=P) (h:=s.heap) e with z | ⟨hu,hp,z⟩
   ·rw[z] at q;cases q;exact st (I.hok b _ e)
   ·rw[z] at q
    cases q
    obtain⟨ob,IV⟩:=obj b o e hu
    rw[IV]
    exact⟨IV,st (I.hok b o e)⟩
def unA(P:Addr→Prop)[DecidablePred P](H:Hp):Hp:=fun b=>if P b then(match H b with | some (.frz _ u)=>some u | x=>x) else H b
theorem Inv.unA(I:Inv X pins σ H s)(hP:∀b,P b→∀o u,X.H₀ b≠some (.frz o u))(hQ:∀b,P b→∀o u,H b=some (.frz o u)→(∃k,u= .dT k)∨∃k,u= .dK k):Inv X pins σ (L3.unA P H) s:=by
 have non:∀b,H b=none→L3.unA P H b=none:=fun b e=>by unfold L3.unA;rw[e];split<;>rfl
 have keep:∀b o,H b=some o→(∀q u,o≠ .frz q u)→L3.unA P H b=some o:=fun b o e n=>by
  unfold L3.unA;split
  ·rw[e];cases o<;>first | rfl | exact absurd rfl (n _ _)
  ·exact e
 refine⟨I.ok,I.os,I.bare,⟨I.base.keep,I.base.slot,fun b q h1 h2 h3=>non b (I.base.free b q h1 h2 h3),I.base.there,fun b xs q=>keep b _ (I.base.tups b xs q) (fun _ _ z=>nomatch z),
  fun b q1 v q=>?_,fun b ps q=>?_⟩,I.loc,I.cell,non _ I.free,fun x c q=>non _ (I.freeC x c q),fun p hp=>?_,fun b v q=>?_,I.len⟩
 ·have:=I.base.frzs b q1 v q
  unfold L3.unA
  rw[if_neg (fun hp=>hP b hp q1 v q)]
  exact this
 ·obtain⟨m,this⟩:=I.base.tbls b ps q
  exact⟨m,keep b _ this (fun _ _ z=>nomatch z)⟩
 ·obtain⟨h1,h2,h3⟩:=I.pin p hp
  exact⟨h1,non _ h2,h3⟩
 ·have st:∀{c:Addr}{v:HO},ObjOk X.prog X.w H s.heap c v→ObjOk X.prog X.w (L3.unA P H) s.heap c v:=fun {c v} k=>k.stay (fun _ _ _ q=>q)
   (fun c' q=>keep c' _ q (fun _ _ z=>nomatch z)) fun c' xs q=>keep c' _ q (fun _ _ z=>nomatch z)
  cases e:H b with
  |none=>rw[non b e] at q;cases q
  |some o=>
   have ko:=I.hok b o e
   by_cases hf:∃ob u,o= .frz ob u
   ·obtain⟨ob,u,rfl⟩:=hf
    unfold L3.unA at q
    split at q
    ·rw[e] at q
     cases q
     obtain⟨_,k2⟩:=ko
     exact st k2
    ·rw[e] at q;cases q;exact st ko
   ·rw[keep b o e (fun q u z=>hf ⟨q,u,z⟩)] at q
    cases q
    exact st ko
end
mutual
def AF:D→Bool
 | .non=>true
 | .bl _=>true
 | .int _=>true
 | .str _=>true
 | .tup ds=>xI ds
 | .raw _=>false
 | .exc _=>false
 | .scr _=>false
 | .lst _=>false
 | .dct _ _=>false
 | .dci _ _=>false
def xI:List D→Bool
 |[]=>true
 |d::ds=>AF d&&xI ds
end
def qc(d:D):M D:=if AF d then M.ret d else M.stuck
def OwnAt(σ:St)(ρ:aY)(b:Addr):Prop:=∃(i:Nat) (c:C),ρ[i]? =some (some (Sl.ow c))∧σ[i]? =some (some (V.ref b))
section
variable{K:W.Frag}{F H F' H':Hp}{σ:St}{ρ:aY}{h:Heap}{b:Addr}
theorem OwnAt.obj(S:StE K F H σ ρ)(p:OwnAt σ ρ b):F b=none∧∃o,H b=some o∧((∃x,o= .lst x)∨(∃x,o= .dT x)∨∃x,o= .dK x):=by
 obtain⟨i,c,h1,h2⟩:=p
 obtain⟨v,h3,a,o,rfl,h4,h5,h6⟩:=S.den i _ h1
 rw[h3] at h2
 cases h2
 refine⟨h5,o,h4,?_⟩
 cases c with
 |lst ds=>obtain⟨vs,rfl,_⟩:=h6;exact .inl ⟨_,rfl⟩
 |dct ks ds=>obtain⟨vs,rfl,_⟩:=h6;exact .inr (.inl ⟨_,rfl⟩)
 |dci ks ds=>obtain⟨vs,rfl,_⟩:=h6;exact .inr (.inr ⟨_,rfl⟩)
open Classical in
noncomputable def fA(σ:St)(ρ:aY)(H1 F:Hp):Hp:=fun b=>if OwnAt σ ρ b then H1 b else F b
open Classical in
theorem xH(S:StE K F H σ ρ){H1:Hp}:Same F (fA σ ρ H1 F):=fun b u e=>by
 unfold fA
 rw[if_neg (fun p=>by rw[(OwnAt.obj S p).1] at e;cases e)]
 exact e
open Classical in
theorem AI(S:StE K F H σ ρ):StE K (fA σ ρ (refA h (OwnAt σ ρ) H) F) (refA h (OwnAt σ ρ) H) σ (yS ρ):=by
 refine⟨fun b u e=>?_,fun j sl e=>?_⟩
 ·unfold fA at e
  split at e
  ·exact e
  ·rename_i hp
   unfold refA
   rw[if_neg hp]
   exact S.fh b u e
 ·unfold yS at e
  rw[List.getElem?_map] at e
  cases q:ρ[j]? with
  |none=>rw[q] at e;cases e
  |some x=>
   rw[q] at e
   cases x with
   |none=>cases e
   |some y=>
    cases y with
    |fz d=>
     cases e
     obtain⟨v,h1,h2⟩:=S.den j _ q
     exact⟨v,h1,Den.mono (xH S) h2⟩
    |ow c=>
     cases e
     obtain⟨v,h1,a,o,rfl,h4,h5,h6⟩:=S.den j _ q
     refine⟨_,h1,DenC.den (ob:=(h.get? a).getD {cls:= .none,data:= .fields #[]}) h6 (xH S) ?_⟩
     have hp:OwnAt σ ρ a:=⟨j,c,q,h1⟩
     unfold fA refA
     rw[if_pos hp,if_pos hp,h4]
     rfl
open Classical in
theorem uf(S:StE K F H σ ρ)(E:Ext (fA σ ρ (refA h (OwnAt σ ρ) H) F) (refA h (OwnAt σ ρ) H) F' H'):
 Ext F H (fun b=>if OwnAt σ ρ b then none else F' b) (unA (OwnAt σ ρ) H')∧∀b,OwnAt σ ρ b→∀o u,H' b=some (.frz o u)→(∃k,u= .dT k)∨∃k,u= .dK k:=by
 have Mw:∀b,OwnAt σ ρ b→∃o,H b=some o∧H' b=some (gQ ((h.get? b).getD {cls:= .none,data:= .fields #[]}) o)∧((∃x,o= .lst x)∨(∃x,o= .dT x)∨∃x,o= .dK x):=fun b hp=>by
  obtain⟨_,o,h1,h2⟩:=OwnAt.obj S hp
  refine⟨o,h1,E.hh b _ ?_,h2⟩
  unfold refA
  rw[if_pos hp,h1]
  rfl
 refine⟨⟨fun b o e=>?_,fun b u e=>?_,fun b u e=>?_,fun b hb=>?_⟩,fun b hp o u e=>?_⟩
 ·unfold unA
  by_cases hp:OwnAt σ ρ b
  ·obtain⟨o',h1,h2,h3⟩:=Mw b hp
   rw[e] at h1
   cases h1
   rw[if_pos hp,h2]
   rcases h3 with⟨x,rfl⟩ | ⟨x,rfl⟩ | ⟨x,rfl⟩<;>rfl
  ·rw[if_neg hp]
   refine E.hh b o ?_
   unfold refA
   rw[if_neg hp]
   exact e
 ·have hp:¬OwnAt σ ρ b:=fun p=>by rw[(OwnAt.obj S p).1] at e;cases e
  show (if OwnAt σ ρ b then none else F' b)=_
  rw[if_neg hp]
  refine E.ff b u ?_
  unfold fA
  rw[if_neg hp]
  exact e
 ·have e:(if OwnAt σ ρ b then none else F' b)=some u:=e
  split at e
  ·cases e
  ·rename_i hp
   unfold unA
   rw[if_neg hp]
   exact E.fh b u e
 ·show (if OwnAt σ ρ b then none else F' b)=F b∨_
  by_cases hp:OwnAt σ ρ b
  ·rw[if_pos hp]
   exact .inl (OwnAt.obj S hp).1.symm
  ·rw[if_neg hp]
   have e1:refA h (OwnAt σ ρ) H b=H b:=by unfold refA;rw[if_neg hp]
   have e2:fA σ ρ (refA h (OwnAt σ ρ) H) F b=F b:=by unfold fA;rw[if_neg hp]
   rcases E.new b (by rw[e1];exact hb) with q | q
   ·exact .inl (q.trans e2)
   ·rw[e1] at q;exact .inr q
 ·obtain⟨o',h1,h2,h3⟩:=Mw b hp
  rw[e] at h2
  rcases h3 with⟨x,rfl⟩ | ⟨x,rfl⟩ | ⟨x,rfl⟩
  ·cases h2
  ·cases h2;exact .inl ⟨_,rfl⟩
  ·cases h2;exact .inr ⟨_,rfl⟩
open Classical in
mutual
theorem t_(S:StE K F H σ ρ)(E:Ext (fA σ ρ (refA h (OwnAt σ ρ) H) F) (refA h (OwnAt σ ρ) H) F' H'):∀{d:D}{v:V},AF d=true→Den K F' d v→Den K (fun b=>if OwnAt σ ρ b then none else F' b) d v
 | .non,_,_,q=>q
 | .bl _,_,_,q=>q
 | .int _,_,_,q=>q
 | .str _,_,_,q=>q
 | .tup ds,_,f,⟨a,vs,h1,h2,h3,h4⟩=>by
   refine⟨a,vs,h1,?_,qd S E ?_ h3,h4⟩
   ·show (if OwnAt σ ρ a then none else F' a)=_
    rw[if_neg,h2]
    intro hp
    obtain⟨_,o,k1,k2⟩:=OwnAt.obj S hp
    have k3:fA σ ρ (refA h (OwnAt σ ρ) H) F a=some (gQ ((h.get? a).getD {cls:= .none,data:= .fields #[]}) o):=by
     unfold fA refA
     rw[if_pos hp,if_pos hp,k1]
     rfl
    have k4:=E.ff a _ k3
    rw[h2] at k4
    rcases k2 with⟨x,rfl⟩ | ⟨x,rfl⟩ | ⟨x,rfl⟩<;>cases k4
   ·exact f
 | .raw _,_,f,_=>by cases f
 | .exc _,_,f,_=>by cases f
 | .scr _,_,f,_=>by cases f
 | .lst _,_,f,_=>by cases f
 | .dct _ _,_,f,_=>by cases f
 | .dci _ _,_,f,_=>by cases f
theorem qd(S:StE K F H σ ρ)(E:Ext (fA σ ρ (refA h (OwnAt σ ρ) H) F) (refA h (OwnAt σ ρ) H) F' H'):∀{ds:List D}{vs:List V},xI ds=true→DenL K F' ds vs→DenL K (fun b=>if OwnAt σ ρ b then none else F' b) ds vs
 |[],_,_,q=>q
 |d::ds,_,f,⟨v,r,h1,h2,h3⟩=>by
  unfold xI at f
  rw[Bool.and_eq_true] at f
  exact⟨v,r,h1,t_ S E f.1 h2,qd S E f.2 h3⟩
end
end
section
variable{X:Cx}{Xw:Nat→Hp→Prop}{e:Expr}{δ:DE}{τ:DT}
theorem qM{pins:List (Addr×Obj)}{s:Shared}{F H:Hp}{σ:St}{ρ:aY}(I:Inv X pins σ H s)(S:StE X.K F H σ ρ)(b:Addr)(p:OwnAt σ ρ b)(o:Obj)(u:HO):X.H₀ b≠some (.frz o u):=fun z=>by
 obtain⟨_,o',k1,k2⟩:=OwnAt.obj S p
 have:=I.base.frzs b o u z
 rw[k1] at this
 rcases k2 with⟨x,rfl⟩ | ⟨x,rfl⟩ | ⟨x,rfl⟩<;>cases this
theorem n8{α:Type}(m:M α):noex m=M.stuck∨∃a,m=M.ret a∧noex m=M.ret a:=by
 rcases m.cs with h | ⟨n,h⟩ | ⟨a,h⟩
 ·subst h;exact .inl rfl
 ·subst h;exact .inl rfl
 ·subst h;exact .inr ⟨a,rfl,rfl⟩
theorem wN(h:rp X Xw e τ):rp X Xw e (fun ρ=>noex (τ (yS ρ))):=fun pins s σ H Q I ⟨F,ρ,S,w⟩=>by
 classical
 rcases n8 (τ (yS ρ)) with q | ⟨b,q,q2⟩
 ·have w:WPB Xw F H (noex (τ (yS ρ))) Q:=w
  rw[q] at w
  exact w.elim
 ·have w:WPB Xw F H (noex (τ (yS ρ))) Q:=w
  rw[q2] at w
  refine bG (h pins s σ _ (fun b' H'=>Q b' (unA (OwnAt σ ρ) H')∧∀c,OwnAt σ ρ c→∀o u,H' c=some (.frz o u)→(∃k,u= .dT k)∨∃k,u= .dK k) (Inv.refA (P:=OwnAt σ ρ) I) ⟨_,_,AI (h:=s.heap) S,?_⟩) fun b' s' ⟨H',I',q1,q3⟩=>⟨_,Inv.unA I' (qM I S) q3,q1⟩
  rw[q]
  intro H' F' E
  obtain⟨E1,q3⟩:=uf S E
  exact⟨w _ _ E1,q3⟩
theorem Jt(h:PD X Xw e δ):PD X Xw e (fun ρ=>noex (δ (yS ρ))>>=qc):=fun pins s σ H Q I ⟨F,ρ,S,w⟩=>by
 classical
 rcases n8 (δ (yS ρ)) with q | ⟨d,q,q2⟩
 ·have w:WP X.K Xw F H (noex (δ (yS ρ))>>=qc) Q:=w
  rw[q] at w
  exact w.elim
 ·have w:WP X.K Xw F H (noex (δ (yS ρ))>>=qc) Q:=w
  rw[q2,aj] at w
  unfold qc at w
  split at w
  ·rename_i hf
   refine bG (h pins s σ _ (fun v H'=>Q v (unA (OwnAt σ ρ) H')∧∀c,OwnAt σ ρ c→∀o u,H' c=some (.frz o u)→(∃k,u= .dT k)∨∃k,u= .dK k) (Inv.refA (P:=OwnAt σ ρ) I) ⟨_,_,AI (h:=s.heap) S,?_⟩) fun b' s' ⟨v,H',I',rv,q1,q3⟩=>⟨v,_,Inv.unA I' (qM I S) q3,rv,q1⟩
   rw[q]
   intro v H' F' E dn
   obtain⟨E1,q3⟩:=uf S E
   exact⟨w _ _ _ E1 (t_ S E hf dn),q3⟩
  ·exact w.elim
end
abbrev DF:=aY→M C
def WPF(K:W.Frag)(Xw:Nat→Hp→Prop)(F H:Hp)(m:M C)(Q:VK):Prop:=
 match m with
 |none=>False
 |some (.ok c)=>∀a o H' F',Ext F H F' H'→H' a=some o→F' a=none→H a=none→DenC K F' c o→Q (.ref a) H'
 |some (.ex n)=>∀F' H',Ext F H F' H'→Xw n H'
def Pl(K:W.Frag)(Xw:Nat→Hp→Prop)(δ:DF):TE:=fun σ H Q=>∃F ρ,StE K F H σ ρ∧WPF K Xw F H (δ ρ) Q
def J2(X:Cx)(Xw:Nat→Hp→Prop)(e:Expr)(δ:DF):Prop:=PE X e (Pl X.K Xw δ)
def Ck(i:Nat)(δ:DF):DS:=fun ρ=>δ ρ>>=fun c=>M.ret (.nx (ρ.set i (some (.ow c))))
theorem StOk.setFresh{K:W.Frag}{F₀ H₀ F H F' H':Hp}{σ:St}{ρ:aY}(s:StOk K F₀ H₀ F H σ ρ){i:Nat}{a:Addr}{o:HO}{c₀:C}(E:Ext F H F' H')(ho:H' a=some o)(nF:F' a=none)(n:H a=none)(h:DenC K F' c₀ o):
 StOk K F₀ H₀ F' H' (σ.set i (some (.ref a))) (ρ.set i (some (.ow c₀))):=by
 have hle:=s.len
 have get:∀(j:Nat) (sl:Sl),(ρ.set i (some (.ow c₀)))[j]? =some (some sl)→(j=i∧i<ρ.length∧sl= .ow c₀)∨(j≠i∧ρ[j]? =some (some sl)):=fun j sl e=>by
  by_cases hj:j=i
  ·subst hj
   have hi:j<ρ.length:=by
    have:=(List.getElem?_eq_some_iff.mp e).1
    simpa using this
   rw[List.getElem?_set_self hi] at e
   cases e
   exact .inl ⟨rfl,hi,rfl⟩
  ·rw[List.getElem?_set_ne (Ne.symm hj)] at e
   exact .inr ⟨hj,e⟩
 have old:∀(j:Nat) (c:C) (b:Addr),ρ[j]? =some (some (.ow c))→σ[j]? =some (some (.ref b))→b≠a:=fun j c b e e' z=>by
  obtain⟨u,h1,b',o,h2,h3,_⟩:=s.st.den j _ e
  rw[h1] at e'
  cases e'
  cases h2
  rw[z,n] at h3
  cases h3
 refine⟨s.ext.trans E,⟨E.fh,fun j sl e=>?_⟩,by simp[hle],fun j c b e e'=>?_,fun j k c c' b e1 e2 e3 e4=>?_⟩
 ·rcases get j sl e with⟨rfl,hi,rfl⟩ | ⟨hj,e⟩
  ·exact⟨.ref a,by rw[List.getElem?_set_self (by omega)],a,_,rfl,ho,nF,h⟩
  ·obtain⟨u,h1,h2⟩:=s.st.den j sl e
   exact⟨u,by rw[List.getElem?_set_ne (Ne.symm hj)];exact h1,h2.ext E⟩
 ·rcases get j _ e with⟨rfl,hi,_⟩ | ⟨hj,e⟩
  ·rw[List.getElem?_set_self (by omega)] at e'
   cases e'
   exact Same.free s.ext.hh n
  ·rw[List.getElem?_set_ne (Ne.symm hj)] at e'
   exact s.own j c b e e'
 ·rcases get j _ e1 with⟨rfl,hi,_⟩ | ⟨hj,e1⟩
  ·rw[List.getElem?_set_self (by omega)] at e3
   cases e3
   rcases get k _ e2 with⟨rfl,_,_⟩ | ⟨hk,e2⟩
   ·rfl
   ·rw[List.getElem?_set_ne (Ne.symm hk)] at e4
    exact absurd rfl (old k c' a e2 e4)
  ·rcases get k _ e2 with⟨Li,hi,_⟩ | ⟨hk,e2⟩
   ·rw[Li,List.getElem?_set_self (by omega)] at e4
    cases e4
    rw[List.getElem?_set_ne (Ne.symm hj)] at e3
    exact absurd rfl (old j c a (by assumption) e3)
   ·rw[List.getElem?_set_ne (Ne.symm hj)] at e3
    rw[List.getElem?_set_ne (Ne.symm hk)] at e4
    exact s.sep j k c c' b e1 e2 e3 e4
theorem WPF.mono{K:W.Frag}{Xw:Nat→Hp→Prop}{F H:Hp}{m:M C}{Q Q':VK}(h:WPF K Xw F H m Q)(k:∀v H',Q v H'→Q' v H'):WPF K Xw F H m Q':=by
 match m,h with
 |none,h=>exact h
 |some (.ok d),h=>exact fun a o H' F' e h1 h2 h3 h4=>k _ _ (h a o H' F' e h1 h2 h3 h4)
 |some (.ex n),h=>exact h
theorem WPF.ext{K:W.Frag}{Xw:Nat→Hp→Prop}{F H F1 H1:Hp}{m:M C}{Q:VK}(e:Ext F H F1 H1)(h:WPF K Xw F H m Q):WPF K Xw F1 H1 m Q:=by
 match m,h with
 |none,h=>exact h
 |some (.ok d),h=>exact fun a o H' F' e' h1 h2 h3 h4=>h a o H' F' (e.trans e') h1 h2 (Same.free e.hh h3) h4
 |some (.ex n),h=>exact fun F2 H2 e2=>h F2 H2 (e.trans e2)
theorem WPF.bind{K:W.Frag}{Xw:Nat→Hp→Prop}{F H:Hp}{m:M D}{k:D→M C}{Q:VK}(h:WPF K Xw F H (m>>=k) Q):WP K Xw F H m fun v H1=>∃F1 d,Ext F H F1 H1∧Den K F1 d v∧WPF K Xw F1 H1 (k d) Q:=by
 match m,h with
 |none,h=>exact h
 |some (.ok d),h=>exact fun v H2 F2 e2 q=>⟨F2,d,e2,q,WPF.ext e2 (show WPF K Xw F H (k d) Q from h)⟩
 |some (.ex n),h=>exact h
section
variable{X:Cx}{Xw:Nat→Hp→Prop}{e k v a b:Expr}{es:List Expr}{δ δ':DF}{δk δv δa δb:DE}{δs:DA}{pos pos' p:Pos}{x:Str}{i:Nat}
theorem BY(hN:X.N.Nodup)(hi:X.N[i]? =some x)(hx:Loc X.env.scope x)(he:J2 X Xw e δ)(hf:X.fn x=true∨X.env.scope.names.lookup x=some .local:=by first | exact .inl rfl | exact .inr rfl)
 (hs:swapsWithSole [.Name x pos'] e pos.line X.env=pure false:=by rfl):
 fE X Xw (.Assign [.Name x pos'] e pos) (Ck i δ):=fun F₀ H₀=>PS.weak (k7 he (ba hN hi hx hf) hs) fun D σ H ⟨F,ρ,s,w⟩=>by
 refine⟨F,ρ,s.st,?_⟩
 unfold Ck at w
 match δ ρ,w with
 |none,w=>exact w
 |some (.ok c),w=>exact fun a o H' F' E h1 h2 h3 h4=>w _ F' H' (s.setFresh E h1 h2 h3 h4)
 |some (.ex n),w=>exact fun F' H' e'=>w F' H' (s.ext.trans e')
theorem Ar{pins:List (Addr×Obj)}{σ:St}{H H':Hp}{s:Shared}{a:Addr}{y v:V}{u r:Value}{A:Around}{E:Value→Shared→Prop}{Q:Unit→Shared→Prop}(hu:A.units+1<cLine)(I:Inv X pins σ H s)(g:DPut H a y v H')(ry:RelV y u)(rv:RelV v r)(h:∀s',Inv X pins σ H' s'→Q () s'):
 wpAny (model X.prog X.w) A (dictSet a u r) Q E s:=by
 rcases g with⟨aw,k,e,ey,l,eH⟩ | ⟨aw,k,b,e,ey,eb,l,eH⟩
 ·subst ey eH
  obtain⟨z,hd,vs,rel,dd⟩:=ES I.hok e
  have hz:vs.length≤sizeLine:=by rw[←rel.length];exact z
  have hl:(putK aw k v).length≤sizeLine:=by have:=dW aw k v;omega
  refine wpAny_dictSet_pairs (hsz:=hz) (nM ry) dd fun h' Au hs=>h _ ?_
  have he:∃q,h'.get? a=some q:=let ⟨q,_,_,hq,_⟩:=Au;⟨q,hq⟩
  exact jy I (by rw[e];exact True.intro) hs he (Ax hl hd (rel.put k rv) Au)
 ·subst ey eH
  cases (show u=Value.ref b from ry)
  obtain⟨z,hd,xs,rel,dd⟩:=Ay I.hok e
  have hz:xs.length≤sizeLine:=by rw[←Paired.length rel];exact z
  have hl:(putK aw k v).length≤sizeLine:=by have:=dW aw k v;omega
  refine wpAny_dictSet_heap (knd:=tupleKind (aV X.prog X.w)) (hsz:=hz) (by exact(show A.units<cLine by omega)) (jd I.hok eb) dd fun h' Au hs=>h _ ?_
  obtain⟨q,es,ep,hq,h2,h3,h4,_,h5⟩:=Au
  refine jy I (by rw[e];exact True.intro) hs ⟨q,hq⟩ ⟨hl,hd,_,(rel.put k eb rv).keeps fun c ys ec=>?_,q,es,ep,hq,h2,h3,h4,h5⟩
  rw[av (Bo ec e (fun z=>nomatch z))]
  exact ec
end
section
variable{X:Cx}{Xw:Nat→Hp→Prop}{e k v a b:Expr}{es:List Expr}{δk δv δa δb:DE}{δs:DA}{pos pos' p:Pos}{x:Str}{i:Nat}
theorem Aw{o0:HO}{put:Hp→Addr→V→V→Hp→Prop}(hu:X.A.units+1<cLine)(h0:∀(H:Hp) (h:Heap),sysModules<h.objs.size→ObjOk X.prog X.w H (h.push {cls:= .type "dict",data:= .dict #[]}) h.objs.size o0){tk tv:TE}(hk:PE X k tk)(hv:PE X v tv):
 PE X (.Dict [some k] [v] pos) (fun σ H Q=>∀p,H p=none→tk σ (upd H p o0) fun y H1=>tv σ H1 fun z H2=>∃H3,DPut H2 p y z H3∧Q (.ref p) H3):=by
 intro pins s σ H Q I q
 have hn:=I.hok.fresh (Nat.le_refl s.heap.objs.size)
 have I1:=I.laid (a:=s.heap.objs.size) (o:=o0) (h':=s.heap.push {cls:= .type "dict",data:= .dict #[]}) (t':=s.toks) (fun _ _ q=>Heap.get?_push_of_some _ q) (Nat.le_refl _) (h0 _ s.heap I.big)
 refine wpAny_Dict_any rfl rfl (by simp) (by simp) (bG (oI hk hv ym pins _ σ _ (fun ps H2=>∃y z H3,ps=[(y,z)]∧DPut H2 s.heap.objs.size y z H3∧Q (.ref s.heap.objs.size) H3) I1 ?_) fun ws s2 ⟨ps,H2,I2,rel,y,z,H3,ep,g,q2⟩=>?_)
 ·refine ?_
  have:=q _ hn
  show tk σ _ fun y H1=>tv σ H1 fun z H2=>∃y' z' H3,[(y,z)]=[(y',z')]∧DPut H2 s.heap.objs.size y' z' H3∧Q (.ref s.heap.objs.size) H3
  have e:(fun (y:V) (H1:Hp)=>tv σ H1 fun z H2=>∃y' z' H3,[(y,z)]=[(y',z')]∧DPut H2 s.heap.objs.size y' z' H3∧Q (.ref s.heap.objs.size) H3)=(fun y H1=>tv σ H1 fun z H2=>∃H3,DPut H2 s.heap.objs.size y z H3∧Q (.ref s.heap.objs.size) H3):=by
   funext y H1
   congr 1
   funext z H2
   refine propext ⟨fun ⟨y',z',H3,ee,r⟩=>?_,fun⟨H3,r⟩=>⟨y,z,H3,rfl,r⟩⟩
   cases ee
   exact⟨H3,r⟩
  rw[e]
  exact this
 ·subst ep
  cases rel with
  | @cons a b as bs h t=>
    cases t
    obtain⟨r1,r2⟩:=h
    unfold storeAll
    rw[List.forIn_cons]
    refine wpAny_bind (wpAny_bind (Ar hu I2 g r1 r2 fun s3 I3=>?_))
    refine wpAny_pure ?_
    show wpAny _ _ (forIn ([]:List (Value×Value)) PUnit.unit _) _ _ _
    rw[List.forIn_nil]
    exact wpAny_pure ⟨V.ref s.heap.objs.size,_,I3,rfl,q2⟩
def qa(k v:D):M C:=match eM k with
 |some kk=>M.ret (.dct [kk] [v])
 |none=>M.stuck
theorem zG(hu:X.A.units+64<cLine)(hk:PD X Xw k δk)(hv:PD X Xw v δv):J2 X Xw (.Dict [some k] [v] pos) (fun ρ=>δk ρ>>=fun x=>δv ρ>>=fun y=>qa x y):=
 PE.weak (Aw (o0:= .dT []) (put:=DPut) (by omega) (fun H h hb=>t7 h hb) hk hv) fun σ H Q ⟨F,ρ,s,w⟩ q hq=>by
  have e0:=Ext.free (o:= .dT []) s.fh hq
  refine⟨F,ρ,s.ext e0,?_⟩
  have w:WPF X.K Xw F H (δk ρ>>=fun x=>δv ρ>>=fun y=>qa x y) Q:=w
  match pq:δk ρ,w with
  |none,w=>exact w
  |some (.ex n),w=>exact fun F' H' e'=>w F' H' (e0.trans e')
  |some (.ok kd),w=>
   intro y H1 F1 e1 q1
   refine⟨F1,ρ,(s.ext e0).ext e1,?_⟩
   have w:WPF X.K Xw F H (δv ρ>>=fun y=>qa kd y) Q:=w
   match DB:δv ρ,w with
   |none,w=>exact w
   |some (.ex n),w=>exact fun F' H' e'=>w F' H' (e0.trans (e1.trans e'))
   |some (.ok vd),w=>
    intro z H2 F2 e2 q2
    have w3:WPF X.K Xw F H (qa kd vd) Q:=w
    clear w
    unfold qa at w3
    cases Dv:eM kd with
    |none=>rw[Dv] at w3;exact w3.elim
    |some kk=>
     rw[Dv] at w3
     have E:=e1.trans e2
     have ON:H2 q=some (.dT []):=E.hh _ _ az
     have MK:F2 q=none:=by
      have:=E.old (a:=q) (o:= .dT []) az (fun _ z=>nomatch z)
      rw[this]
      exact Same.free s.fh hq
     unfold eM at Dv
     split at Dv
     ·rename_i es
      obtain⟨b,ws,rfl,k2,k3,_⟩:=Den.mono e2.ff q1
      have e5:=gW Dv k3
      subst e5
      refine⟨_,DPut.t (k:=kk) ON (e2.fh _ _ k2) (by rw[sizeLine_eq];decide),?_⟩
      refine w3 q (.dT (putK [] kk z)) _ F2 ⟨fun c u hc=>?_,(e0.trans E).ff,fun c u hc=>?_,(e0.trans E).new⟩ az MK hq ⟨[z],rfl, .cons q2 .nil,rfl,show 1≤lim by decide⟩
      ·rw[av (fun zz=>by rw[zz,hq] at hc;cases hc)]
       exact(e0.trans E).hh c u hc
      ·rw[av (fun zz=>by rw[zz,MK] at hc;cases hc)]
       exact e2.fh c u hc
     ·cases Dv
theorem xt{K:W.Frag}{F H:Hp}{d k:D}{x y:V}{o:Option D}(s:Same F H)(hd:Den K F d x)(hk:Den K F k y)(e:CU d k=some o):
 ∃a ov,x= .ref a∧mx H a y ov∧ov.isSome=o.isSome∧∀d',o=some d'→∃v,ov=some v∧Den K F d' v:=by
 obtain⟨a,ov,h1,h2,h3,h4⟩:=xu (σ:=[some x]) (ρ:=[some (.fz d)]) (i:=0) (H:=H) ⟨s,fun i sl q=>by
  match i,q with
  |0,q=>cases q;exact⟨x,rfl,hd⟩
  |i+1,q=>simp at q⟩ rfl hk e
 cases h1
 exact⟨a,ov,rfl,h2,h3,h4⟩
def jc(neg:Bool)(k d:D):M D:=match CU d k with
 |some o=>M.ret (.bl (if neg then !o.isSome else o.isSome))
 |none=>M.stuck
def JD(neg:Bool):R2:=fun y x H Q=>∃a o,x= .ref a∧mx H a y o∧Q (.bl (if neg then !o.isSome else o.isSome)) H
theorem zy(hu:X.A.units+64<cLine):OpR X (compareOp .NotIn) (JD true):=fun pins s σ H y x v u Q I ry rx ⟨a,o,ex,g,q⟩=>by
 subst ex
 obtain rfl:u=Value.ref a:=rx
 exact Dd (by omega) I g ry fun s' I'=>⟨.bl (!o.isSome),_,I',rfl,q⟩
theorem D0{K:W.Frag}{neg:Bool}:vD K (JD neg) (jc neg):=fun Xw F H y x dk dd Q s hk hd w=>by
 unfold jc at w
 cases he:CU dd dk with
 |none=>rw[he] at w;exact w.elim
 |some o=>
  rw[he] at w
  obtain⟨a,ov,h1,h2,h3,_⟩:=xt s hd hk he
  refine⟨a,ov,h1,h2,?_⟩
  rw[h3]
  exact WP.now w s rfl
theorem k8(hu:X.A.units+64<cLine)(ha:PD X Xw a δa)(hb:PD X Xw b δb)(hm:behindInMarks .NotIn b=false:=by rfl):rp X Xw (.Compare a [.NotIn] [b] pos) (df (d2 (jc true) δa δb)):=iE (zy hu) D0 ha hb hm
end
section
variable{X:Cx}{pins:List (Addr×Obj)}{σ:St}{H:Hp}{s:Shared}{h':Heap}
end
section
variable{X:Cx}{Xw:Nat→Hp→Prop}{tg e:Expr}{es:List Expr}{δ δi:DE}{δs:DA}{pos p tp:Pos}{x1:Nat}
end
def DL:Key→D
 | .inl i=> .int i
 | .inr x=> .str x
def EK(H:Hp)(d:Addr)(od:Obj)(i:Nat)(x:V):Prop:=
 (∃aw k b,H d=some (.frz od (.dT aw))∧(aw.map (·.1))[i]? =some k∧x= .ref b∧H b=some (.tup (k.map kV)))∨
 ∃aw k,H d=some (.frz od (.dK aw))∧(aw.map (·.1))[i]? =some k∧x=kV k
def Mr(d:Addr)(od:Obj):It:=
 ⟨fun i H=>(∃aw,H d=some (.frz od (.dT aw))∧i<aw.length)∨∃aw,H d=some (.frz od (.dK aw))∧i<aw.length,fun i H x H'=>H'=H∧EK H d od i x,
  fun i H=>(∃aw,H d=some (.frz od (.dT aw))∧aw.length≤i)∨∃aw,H d=some (.frz od (.dK aw))∧aw.length≤i⟩
theorem l8{α β γ:Type}{R:α→β→Prop}{f:α→γ}{g:β→γ}(h:∀a b,R a b→f a=g b):∀{l:List α}{m:List β},Paired R l m→l.map f=m.map g
 |_,_, .nil=>rfl
 |_,_, .cons r t=>by rw[List.map_cons,List.map_cons,h _ _ r,l8 h t]
theorem jh{α β:Type}{R:α→β→Prop}:∀{l:List α}{m:List β}{i:Nat}{a:α},Paired R l m→l[i]? =some a→∃b,m[i]? =some b∧R a b
 |_,_,i,_, .nil,e=>by simp at e
 |_,_,0,_, .cons r t,e=>by simp at e;subst e;exact⟨_,rfl,r⟩
 |_,_,i+1,_, .cons r t,e=>by
  obtain⟨b,e1,e2⟩:=jh (i:=i) t (by simpa using e)
  exact⟨b,by simpa using e1,e2⟩
theorem zD{prog:Program}{w:World}{κ:Type}[DecidableEq κ]{knd:KeyKind prog w κ}:∀{es:List DictEntry}{aw:List (κ×Value)}{i:Nat}{kv:κ×Value},Pairs knd es aw→aw[i]? =some kv→∃e,es[i]? =some e∧knd.is kv.1 e.key=true:=by
 intro es aw i kv h e
 induction h generalizing i with
 |nil=>simp at e
 | @cons en Qe HH Pf h1 h2 h3 ih=>
   cases i with
   |zero=>simp at e;subst e;exact⟨en,rfl,h1⟩
   |succ i=>
    obtain⟨q,e1,e2⟩:=ih (i:=i) (by simpa using e)
    exact⟨q,by simpa using e1,e2⟩
theorem Gu{k:Key}{u:Value}(h:nP k u=true):RelV (kV k) u:=by
 rcases bz h with⟨i,t,rfl,rfl⟩ | ⟨x,t,rfl,rfl⟩
 ·exact⟨t,rfl⟩
 ·exact⟨t,rfl⟩
theorem nk{X:Cx}{pins:List (Addr×Obj)}{σ:St}{H:Hp}{s:Shared}{d:Addr}{od:Obj}{n:Nat}(I:Inv X pins σ H s)
 (h:(∃aw,H d=some (.frz od (.dT aw))∧n=aw.length)∨∃aw,H d=some (.frz od (.dK aw))∧n=aw.length):
 ∃es ep,(d==sysModules)=false∧s.heap.get? d=some od∧od.ExactDict∧od.data= .dict es ep∧es.size=n∧∀i,i<n→∃e x,es[i]? =some e∧RelV x e.key∧EK H d od i x:=by
 rcases h with⟨aw,e,rfl⟩ | ⟨aw,e,rfl⟩
 ·obtain⟨ho,z,lo,xs,rel,o,es,ep,h1,h2,h3,h4,h5⟩:=(show ObjOk X.prog X.w H s.heap d (.frz od (.dT aw)) from I.hok d _ e)
  rw[ho] at h1
  cases h1
  have hl:es.size=aw.length:=by
   rw[←Array.length_toList,h4,List.length_map]
   exact(Paired.length rel).symm
  refine⟨es,ep,lo,ho,h2,h3,hl,fun i hi=>?_⟩
  obtain⟨q,e1,e2,e3,e4⟩:=jh rel (List.getElem?_eq_getElem hi)
  refine⟨entryOfKey (tupleKind (aV X.prog X.w)) q, .ref q.2.1,?_,rfl, .inl ⟨aw,aw[i].1,q.2.1,e,?_,rfl,e3⟩⟩
  ·rw[←Array.getElem?_toList,h4,List.getElem?_map,e1]
   rfl
  ·rw[List.getElem?_map,List.getElem?_eq_getElem hi]
   rfl
 ·obtain⟨ho,z,lo,vs,rel,o,es,ep,h1,h2,h3,h4,h5,h6⟩:=(show ObjOk X.prog X.w H s.heap d (.frz od (.dK aw)) from I.hok d _ e)
  rw[ho] at h1
  cases h1
  have hl:es.size=aw.length:=by
   rw[←Array.length_toList,h5.length]
   exact(Paired.length rel).symm
  refine⟨es,ep,lo,ho,h2,h3,hl,fun i hi=>?_⟩
  obtain⟨q,e1,e2,e3⟩:=jh rel (List.getElem?_eq_getElem hi)
  obtain⟨en,e4,e5⟩:=zD h5 e1
  refine⟨en,kV aw[i].1,by rw[←Array.getElem?_toList];exact e4,?_, .inr ⟨aw,aw[i].1,e,by rw[List.getElem?_map,List.getElem?_eq_getElem hi];rfl,rfl⟩⟩
  rw[e2]
  exact Gu e5
theorem zS{P:Program}{w:World}{K:W.Frag}{tg:Expr}(d it:Addr)(od:Obj)(es:Array DictEntry)(ep:Nat)(mC:od.data= .dict es ep):
 Turn P w K tg (Mr d od) [it] it (fun i h=>h.IsKeyIter it d i es.size ep) where
 mem:=by simp
 obj:=fun i h st b hb=>by
  have e:b=it:=by simpa using hb
  subst e
  obtain⟨o,e,c,dd⟩:=st
  exact⟨o,e,fun v z=>by rw[dd] at z;cases z⟩
 keep:=fun i h h' st k=>st.at fun o e=>k it (by simp) o e
 item:=by
  intro X hP hw hK hc i pins s σ H E I hf st hg
  subst hP hw hK
  obtain⟨n,hn,hi⟩:∃n,((∃aw,H d=some (.frz od (.dT aw))∧n=aw.length)∨∃aw,H d=some (.frz od (.dK aw))∧n=aw.length)∧i<n:=by
   rcases hg with⟨aw,e,hi⟩ | ⟨aw,e,hi⟩
   ·exact⟨_, .inl ⟨aw,e,rfl⟩,hi⟩
   ·exact⟨_, .inr ⟨aw,e,rfl⟩,hi⟩
  obtain⟨HH,Dk,lo,ho,hx,pk,hsz,hk⟩:=nk I hn
  rw[mC] at pk
  cases pk
  obtain⟨en,x,e1,rx,ka⟩:=hk i hi
  obtain⟨f0,f1,f2,f3,f4,f5⟩:=hf it (by simp)
  refine uE st ho mC e1 fun h' oZ sb=>?_
  have I1:Inv X pins σ H {s with heap:=h'}:=I.turned (t':=s.toks) (fun b o hb e=>(sb.2 b hb).trans e) f0 f1 f3 f4 f5
  obtain⟨o,e2,c,dd⟩:=id oZ
  exact⟨_,rfl,qi (s:={s with heap:=h'}) e2 c dd (by decide) ⟨x,H,I1,rx,⟨rfl,ka⟩,oZ,fun b hb=>(hf b hb).1⟩⟩
 done:=by
  intro X hP hw hK hc i pins s σ H E I hf st hg
  subst hP hw hK
  obtain⟨n,hn,hi⟩:∃n,((∃aw,H d=some (.frz od (.dT aw))∧n=aw.length)∨∃aw,H d=some (.frz od (.dK aw))∧n=aw.length)∧n≤i:=by
   rcases hg with⟨aw,e,hi⟩ | ⟨aw,e,hi⟩
   ·exact⟨_, .inl ⟨aw,e,rfl⟩,hi⟩
   ·exact⟨_, .inr ⟨aw,e,rfl⟩,hi⟩
  obtain⟨HH,Dk,lo,ho,hx,pk,hsz,hk⟩:=nk I hn
  rw[mC] at pk
  cases pk
  obtain⟨f0,f1,f2,f3,f4,f5⟩:=hf it (by simp)
  exact qb (I.ok.hd hc) st (by omega) ho mC fun h' eb=>⟨rfl,I.turned (t':=s.toks) (fun b o hb e=>eb b o hb e) f0 f1 f3 f4 f5⟩
 self:=fun _ _ _ _ _ st h=>wpAny_pyIter_keyiter st h
def tupK(k:List Key):D:= .tup (k.map DL)
def yf:Key→Bool
 | .inl _=>true
 | .inr x=>decide (x.length≤lim)
def lJ:D→M (List D)
 | .dct ks _=>if ks.all (fun k=>decide (k.length≤lim)&&k.all yf) then M.ret (ks.map tupK) else M.stuck
 | .dci ks _=>if ks.all yf then M.ret (ks.map DL) else M.stuck
 |_=>M.stuck
theorem uy{K:W.Frag}{F:Hp}{k:Key}(h:yf k=true):Den K F (DL k) (kV k):=by
 cases k with
 |inl i=>exact rfl
 |inr x=>exact⟨rfl,of_decide_eq_true h⟩
theorem qq{K:W.Frag}{F:Hp}:∀{k:List Key},k.all yf=true→DenL K F (k.map DL) (k.map kV)
 |[],_=>rfl
 |x::k,h=>by
  rw[List.all_cons,Bool.and_eq_true] at h
  exact .cons (uy h.1) (qq h.2)
theorem A6{K:W.Frag}{F:Hp}{a:Addr}{ob:Obj}{d:D}{ds:List D}(hd:Den K F d (.ref a))(hF:∃u,F a=some (.frz ob u))(e:lJ d=M.ret ds):ItD K F (Mr a ob) ds:=fun F' H' i s1 s2=>by
 unfold lJ at e
 split at e
 ·rename_i ks es
  split at e
  ·rename_i hok
   obtain rfl:=er e
   obtain⟨a',Pj,vs,z,h2,h3,h4,h5⟩:=hd
   cases z
   obtain⟨u,hu⟩:=hF
   rw[h2] at hu
   cases hu
   have hh:=s2 _ _ (s1 _ _ h2)
   have hz:=iL (a:=ks) (b:=vs) (by rw[h4];exact h3.len)
   have hl:(ks.zip vs).length=ks.length:=by rw[←List.length_map (f:=(·.1)),hz]
   refine⟨fun d e=>?_,fun hle=> .inl ⟨_,hh,by rw[hl];simpa using hle⟩⟩
   rw[List.getElem?_map] at e
   cases q:ks[i]? with
   |none=>rw[q] at e;cases e
   |some k=>
    rw[q] at e
    cases e
    have hi:=(List.getElem?_eq_some_iff.mp q).1
    refine⟨.inl ⟨_,hh,by rw[hl];exact hi⟩,fun x H'' ⟨y1,y2⟩=>?_⟩
    subst y1
    have hk:=List.all_eq_true.mp hok k (List.mem_of_getElem? q)
    rw[Bool.and_eq_true] at hk
    rcases y2 with⟨aw,k',b,q1,q2,rfl,q3⟩ | ⟨aw,k',q1,q2,rfl⟩
    ·rw[hh] at q1
     cases q1
     rw[hz,q] at q2
     cases q2
     have E:=Ext.tup (F:=F') s2 q3
     exact⟨_,E,b,_,rfl,az,qq hk.2,by rw[List.length_map];exact of_decide_eq_true hk.1⟩
    ·rw[hh] at q1;cases q1
  ·exact(eS e).elim
 ·rename_i ks es
  split at e
  ·rename_i hok
   obtain rfl:=er e
   obtain⟨a',Pj,vs,z,h2,h3,h4,h5⟩:=hd
   cases z
   obtain⟨u,hu⟩:=hF
   rw[h2] at hu
   cases hu
   have hh:=s2 _ _ (s1 _ _ h2)
   have hz:=iL (a:=ks) (b:=vs) (by rw[h4];exact h3.len)
   have hl:(ks.zip vs).length=ks.length:=by rw[←List.length_map (f:=(·.1)),hz]
   refine⟨fun d e=>?_,fun hle=> .inr ⟨_,hh,by rw[hl];simpa using hle⟩⟩
   rw[List.getElem?_map] at e
   cases q:ks[i]? with
   |none=>rw[q] at e;cases e
   |some k=>
    rw[q] at e
    cases e
    have hi:=(List.getElem?_eq_some_iff.mp q).1
    refine⟨.inr ⟨_,hh,by rw[hl];exact hi⟩,fun x H'' ⟨y1,y2⟩=>?_⟩
    subst y1
    have hk:=List.all_eq_true.mp hok k (List.mem_of_getElem? q)
    rcases y2 with⟨aw,k',b,q1,q2,rfl,q3⟩ | ⟨aw,k',q1,q2,rfl⟩
    ·rw[hh] at q1;cases q1
    ·rw[hh] at q1
     cases q1
     rw[hz,q] at q2
     cases q2
     exact⟨F',Ext.refl s2,uy hk⟩
  ·exact(eS e).elim
 ·exact(eS e).elim
section
variable{X:Cx}{Xw:Nat→Hp→Prop}{tg l:Expr}{δ:DE}
theorem BM(h:PD X Xw l δ):yy X Xw tg l (fun ρ=>δ ρ>>=lJ):=by
 intro pins s σ H R I ⟨F,ρ,S,w⟩
 refine bG (h pins s σ H (fun v H1=>∃F1 d,Ext F H F1 H1∧Den X.K F1 d v∧WPI X.K Xw F1 H1 (lJ d) R) I ⟨F,ρ,S,WPI.bind w⟩) fun u s1 ⟨v,H1,I1,r1,F1,d,e1,q1,w1⟩=>?_
 rcases(lJ d).cs with z | ⟨n,z⟩ | ⟨ds,z⟩
 ·rw[z] at w1;exact w1.elim
 ·exfalso
  unfold lJ at z
  split at z
  ·split at z<;>cases z
  ·split at z<;>cases z
  ·cases z
 ·rw[z] at w1
  obtain⟨a,ob,u',rfl,hF,hn⟩:∃a ob u',v= .ref a∧F1 a=some (.frz ob u')∧∃n,((∃aw,H1 a=some (.frz ob (.dT aw))∧n=aw.length)∨∃aw,H1 a=some (.frz ob (.dK aw))∧n=aw.length):=by
   unfold lJ at z
   split at z
   ·obtain⟨a,ob,vs,e,h2,_⟩:=q1;exact⟨a,ob,_,e,h2,_, .inl ⟨_,e1.fh _ _ h2,rfl⟩⟩
   ·obtain⟨a,ob,vs,e,h2,_⟩:=q1;exact⟨a,ob,_,e,h2,_, .inr ⟨_,e1.fh _ _ h2,rfl⟩⟩
   ·exact(eS z).elim
  obtain⟨n,hn⟩:=hn
  cases (show u=_ from r1)
  obtain⟨es,ep,lo,ho,hx,hd,hsz,hk⟩:=nk I1 hn
  refine qp lo ho hx hd ?_
  refine⟨s1.heap.objs.size,[s1.heap.objs.size],_,_,H1,rfl,I1.kept (t':=s1.toks) fun b o e=>Heap.get?_push_of_some _ e,zS a _ ob es ep hd,⟨_,Heap.get?_push_size _ rfl,rfl,rfl⟩,fun b hb=>?_,w1 _ _ _ (Ext.refl e1.fh) (A6 q1 ⟨_,hF⟩ z)⟩
  have e:b=s1.heap.objs.size:=by simpa using hb
  subst e
  exact I1.fpOk (Nat.le_refl _) (I1.hok.fresh (Nat.le_refl _))
end
end L3
namespace L3
open PySem
section
variable{prog:Program}{w:World}{K:Type}[DecidableEq K]{knd:HeapKind prog w K}{A:Around}{E:Value→Shared→Prop}{s:Shared}
theorem oU{d a:Addr}{xs:List (K×Addr×Value)}{k:K}{v:Value}{Q:Unit→Shared→Prop}(hu:knd.room A)(y0:knd.is s.heap k a)(hm:s.heap.DictOfH knd d xs)(hsz:xs.length≤sizeLine)
 (hQ:∀h',h'.DictOfH knd d (storedH xs k a v)→Heap.SameBut d s.heap h'→Q () {s with heap:=h'}):wpAny (model prog w) A (dictSetHashed d (.ref a) (knd.hash k) v) Q E s:=by
 obtain⟨o,es,ep,ho,hc,hd,he,Le,hn⟩:=hm
 unfold dictSetHashed
 refine wpAny_holding (wpAny_bind (wpAny_dictFind_heap hu y0 ho hd he Le hn (fun nB=>?_) fun j p hj=>?_))
 ·have e0:=atKey_none_of_get nB
  have hz:es.size≤sizeLine:=by rw[size_of_entries he];exact hsz
  refine wpAny_bind (wpAny_rule (wpAny_updateDictKeys (hz:=hz) ho hd (hQ _ ?_ (Heap.SameBut.update ..))))
  rw[storedH_new e0]
  refine⟨_,_,ep+1,Heap.get?_update_self _ ho (Obj.isFreed_of_dict (Obj.data_mapDictKeys hd _)),hc.mapDictKeys _,Obj.data_mapDictKeys hd _,by simp[he,entryOfKey],fun x hx=>?_,?_⟩
  ·rcases List.mem_append.mp hx with hx | hx
   ·exact knd.keeps (Le x hx) ho hd (Heap.SameBut.update ..)
   ·obtain rfl:x=(k,a,v):=by simpa using hx
    exact knd.keeps y0 ho hd (Heap.SameBut.update ..)
  ·rw[List.map_append]
   refine List.nodup_append.mpr ⟨hn,by simp,fun x hx y hy z=>?_⟩
   have hy:y=k:=by simpa using hy
   exact not_mem_keys_of_get nB (by rw[←hy,←z];exact hx)
 ·have e0:=atKey_of_get hn hj
  refine wpAny_bind (wpAny_rule (wpAny_bind (wpAny_updateDict ho hd (wpAny_point (hQ _ ?_ (Heap.SameBut.update ..))))))
  rw[storedH_old e0]
  refine⟨_,_,ep,Heap.get?_update_self _ ho (Obj.isFreed_of_dict (Obj.data_mapDict hd _)),hc.mapDict _,Obj.data_mapDict hd _,?_,fun x hx=>?_,by rw[keys_map_putAt];exact hn⟩
  ·have:=modify_map_putAt (entryOfKey knd) (fun e:DictEntry=>{e with val:=v}) k v (fun _ _=>rfl) hn hj
   rw[←he] at this
   obtain⟨l⟩:=es
   simpa using this
  ·obtain⟨y,hy,rfl⟩:=List.mem_map.mp hx
   unfold putAt
   split<;>exact knd.keeps (Le y hy) ho hd (Heap.SameBut.update ..)
def ck(xs ys:List (K×Addr×Value)):List (K×Addr×Value):=ys.foldl (fun acc y=>storedH acc y.1 y.2.1 y.2.2) xs
theorem vn(xs:List (K×Addr×Value))(k:K)(a:Addr)(v:Value):(storedH xs k a v).length≤xs.length+1:=by
 unfold storedH;split<;>simp
theorem lL:∀(ys xs:List (K×Addr×Value)),(ck xs ys).length≤xs.length+ys.length
 |[],xs=>Nat.le_refl _
 |y::ys,xs=>by
  have h1:=lL ys (storedH xs y.1 y.2.1 y.2.2)
  have h2:=vn xs y.1 y.2.1 y.2.2
  show (ck (storedH xs y.1 y.2.1 y.2.2) ys).length≤_
  rw[List.length_cons];omega
theorem se{xs ys:List (K×Addr×Value)}{i:Nat}{y:K×Addr×Value}(h:ys[i]? =some y):ck xs (ys.take (i+1))=storedH (ck xs (ys.take i)) y.1 y.2.1 y.2.2:=by
 rw[List.take_add_one,h]
 unfold ck
 rw[List.foldl_append]
 rfl
theorem lM:∀(ys acc:List (K×Addr×Value)),((acc++ys).map (·.1)).Nodup→ck acc ys=acc++ys
 |[],acc,_=>by simp[ck]
 |y::ys,acc,hn=>by
  show ck (storedH acc y.1 y.2.1 y.2.2) ys=_
  have Lo:y.1∉acc.map (·.1):=fun h=>by
   rw[List.map_append] at hn
   exact(List.nodup_append.mp hn).2.2 _ h _ (by simp) rfl
  have e0:atKey acc y.1=none:=atKey_none_of_get fun j p hj=>Lo (List.mem_map.mpr ⟨_,List.mem_of_getElem? hj,rfl⟩)
  rw[storedH_new e0,lM ys (acc++[(y.1,y.2.1,y.2.2)]) (by simpa using hn)]
  simp
theorem rO{id:String}{o:Addr}{ob:Obj}{es:Array DictEntry}{ep:Nat}{Q:Array DictEntry→Shared→Prop}(ho:s.heap.get? o=some ob)(hd:ob.data= .dict es ep)
 (hq:∀e∈es.toList,∃a,e.key= .ref a∧s.TypeIs (.ref a) "tuple")(hh:∀e∈es.toList,(es.filter (·.hash==e.hash)).size≤1)(h:Q es s):wpAny (model prog w) A (Builtin.Dict.entriesForEmpty id o) Q E s:=by
 unfold Builtin.Dict.entriesForEmpty
 refine wpAny_bind (wpAny_dictEntries ho hd ?_)
 rw[←Array.forIn_toList]
 refine wpAny_bind (wpAny_forIn_list _ (fun rest _ s'=>s'=s∧∀e∈rest,e∈es.toList) _ ?_ ?_ _ _ ⟨rfl,fun _ h=>h⟩)
 ·rintro e rest b s' ⟨rfl,hr⟩
  obtain⟨a,ea,ta⟩:=hq e (hr e (List.mem_cons_self ..))
  have hf:=hh e (hr e (List.mem_cons_self ..))
  have dP:¬((es.filter (·.hash==e.hash)).size>1):=by omega
  rw[ea]
  unfold Builtin.Dict.quietEq
  refine wpAny_bind (wpAny_bind (wpAny_specialOf ta F.slot_tuple_eq.lookup (wpAny_pure ?_)))
  simp only[dP,if_false]
  have:(some (Value.builtin "tuple.__eq__")==some (Value.builtin "object.__eq__"))=false:=by decide
  simp only[this,Bool.not_false,if_true]
  exact wpAny_pure ⟨rfl,fun x hx=>hr x (List.mem_cons_of_mem _ hx)⟩
 ·rintro b s' ⟨rfl,_⟩
  exact wpAny_pure h
theorem nX{nm:String}{d o:Addr}{xs ys:List (K×Addr×Value)}{Q:Unit→Shared→Prop}(hu:knd.room A)(MV:d≠o)(OL:(o==sysModules)=false)(hd:s.heap.DictOfH knd d xs)(ho:s.heap.DictOfH knd o ys)
 (Oy:∀{h:Heap}{k:K}{a:Addr},knd.is h k a→∃ob,h.get? a=some ob∧ob.cls= .type "tuple")(hh:xs=[]→(ys.map fun y=>knd.hash y.1).Nodup)(hsz:xs.length+ys.length≤sizeLine)
 (hQ:∀h',h'.DictOfH knd d (ck xs ys)→Heap.SameBut d s.heap h'→Q () {s with heap:=h'}):wpAny (model prog w) A (Builtin.Dict.mergeDict nm d o) Q E s:=by
 obtain⟨od,NP,NM,y4,xN,mC,Od,La,C1⟩:=id hd
 obtain⟨oo,vW,NN,IW,PV,yW,z6,Ld,nB⟩:=id ho
 have hlen:=size_of_entries z6
 unfold Builtin.Dict.mergeDict
 rw[if_neg (by simpa using MV)]
 unfold Builtin.Dict.showsAll
 rw[if_neg (by rw[OL];exact Bool.false_ne_true)]
 refine wpAny_bind (wpAny_pure (wpAny_bind (wpAny_dictEntries IW yW ?_)))
 have loop:∀(body:Nat→PUnit→Sem (ForInStep PUnit)),body=(fun i (_:PUnit)=>(do
       let l'←dictEntries o
       match l'[i]? with
        |some e=>do
         holding [e.key,e.val] (dictSetHashed d e.key e.hash e.val)
         let Dk←dictEpoch o
         if (Dk !=NN)=true then do (unsupported (toString nm++toString ":source-changed-during-callback"):Sem PUnit);pure (ForInStep.yield PUnit.unit) else pure (ForInStep.yield PUnit.unit)
        |_=>do
         (unsupported "internal:dict-merge":Sem PUnit)
         pure (ForInStep.yield PUnit.unit):Sem (ForInStep PUnit)))→wpAny (model prog w) A (forIn [:vW.size] PUnit.unit body) (fun _ s'=>Q () s') E s:=by
  rintro _ rfl
  rw[Std.Legacy.Range.forIn_eq_forIn_range']
  simp only[Std.Legacy.Range.size,Nat.sub_zero,Nat.add_sub_cancel,Nat.div_one]
  refine wpAny_forIn_list _ (fun rest _ s'=>∃h' i,s'={s with heap:=h'}∧rest=List.range' i (vW.size - i)∧i≤vW.size∧h'.DictOfH knd d (ck xs (ys.take i))∧h'.get? o=some oo∧Heap.SameBut d s.heap h') _ ?_ ?_ _ _
   ⟨s.heap,0,rfl,by simp,Nat.zero_le _,by simpa[ck] using hd,IW,Heap.SameBut.refl _ _⟩
  ·rintro x rest b s' ⟨h',i,rfl,hr,hi,pk,Gd,rY⟩
   have dP:i<vW.size:=by
    by_cases h:i<vW.size
    ·exact h
    ·rw[show vW.size - i=0 by omega] at hr;simp at hr
   rw[show vW.size - i=(vW.size - (i+1))+1 by omega,List.range'_succ] at hr
   injection hr with h1 h2
   subst h1
   refine wpAny_bind (wpAny_dictEntries Gd yW ?_)
   obtain⟨y,hy⟩:∃y,ys[x]? =some y:=⟨_,List.getElem?_eq_getElem (by omega)⟩
   rw[entry_at z6 x,hy]
   have OH:(ck xs (ys.take x)).length≤sizeLine:=by
    have e1:=lL (ys.take x) xs
    rw[List.length_take] at e1
    omega
   have Oz:knd.is h' y.1 y.2.1:=knd.keeps (Ld y (List.mem_of_getElem? hy)) y4 mC rY
   refine wpAny_bind (wpAny_holding (oU hu Oz pk OH fun MG K5 IY=>?_))
   have E5:MG.get? o=some oo:=(IY.2 o (Ne.symm MV)).trans Gd
   refine wpAny_bind (wpAny_dictEpoch E5 yW ?_)
   rw[if_neg (by simp)]
   exact wpAny_pure ⟨MG,x+1,rfl,h2,dP,by rw[se hy];exact K5,E5,rY.trans IY⟩
  ·rintro b s' ⟨h',i,rfl,hr,hi,pk,Gd,rY⟩
   have v3:i=vW.size:=by
    by_cases h:i<vW.size
    ·rw[show vW.size - i=(vW.size - (i+1))+1 by omega,List.range'_succ] at hr;exact nomatch hr
    ·omega
   refine hQ h' ?_ rY
   rw[v3,hlen,List.take_length] at pk;exact pk
 have go:wpAny (model prog w) A (do
  let Ih←dictEpoch o
  let l←dictEntries o
  forIn [:l.size] PUnit.unit fun i (_:PUnit)=>(do
   let l'←dictEntries o
   match l'[i]? with
    |some e=>do
     holding [e.key,e.val] (dictSetHashed d e.key e.hash e.val)
     let Dk←dictEpoch o
     if (Dk !=Ih)=true then do (unsupported (toString nm++toString ":source-changed-during-callback"):Sem PUnit);pure (ForInStep.yield PUnit.unit) else pure (ForInStep.yield PUnit.unit)
    |_=>do
     (unsupported "internal:dict-merge":Sem PUnit)
     pure (ForInStep.yield PUnit.unit):Sem (ForInStep PUnit))
  pure ()) Q E s:=by
  refine wpAny_bind (wpAny_dictEpoch IW yW (wpAny_bind (wpAny_dictEntries IW yW (wpAny_bind ?_))))
  exact wpAny_mono (loop _ rfl) (fun _ _ h=>wpAny_pure h) fun _ _ h=>h
 dsimp only
 split
 ·refine wpAny_bind (wpAny_dictEntries y4 mC ?_)
  split
  ·rename_i FW
   have Ja:xs=[]:=by
    have h0:NP= #[]:=Array.isEmpty_iff.mp FW
    have:=size_of_entries Od
    rw[h0] at this
    exact List.length_eq_zero_iff.mp (by simpa using this.symm)
   subst Ja
   have OJ:=hh rfl
   refine wpAny_bind (rO IW yW (fun e he=>?_) (fun e he=>?_) ?_)
   ·rw[z6] at he
    obtain⟨y,hy,rfl⟩:=List.mem_map.mp he
    obtain⟨ob,h1,h2⟩:=Oy (Ld y hy)
    exact⟨y.2.1,rfl,ob,h1,h2⟩
   ·have:(vW.filter (·.hash==e.hash)).size=((ys.map fun y=>knd.hash y.1).filter (· ==e.hash)).length:=by
     rw[←Array.length_toList,Array.toList_filter,z6,List.filter_map,List.filter_map,List.length_map,List.length_map]
     rfl
    rw[this]
    have hc:=List.nodup_iff_count.mp OJ e.hash
    rw[List.count_eq_countP,List.countP_eq_length_filter] at hc
    exact hc
   ·have hm:ck ([]:List (K×Addr×Value)) ys=ys:=by
     rw[lM ys [] (by simpa using nB)];rfl
    rw[hm] at hQ
    split
    ·have O1:vW.size≤sizeLine+1:=by simp at hsz;omega
     refine wpAny_bind (wpAny_updateDictKeysTo y4 mC (wpAny_pure (hQ _ ⟨_,_,NM+1,Heap.get?_update_self _ y4 (Obj.isFreed_of_dict (Obj.data_mapDictKeys mC _)),xN.mapDictKeys _,Obj.data_mapDictKeys mC _,z6,fun x hx=>?_,nB⟩ (Heap.SameBut.update ..))) O1)
     exact knd.keeps (Ld x hx) y4 mC (Heap.SameBut.update ..)
    ·rename_i fL
     have h0:vW= #[]:=Array.isEmpty_iff.mp (by simpa using fL)
     have OD:ys=[]:=List.length_eq_zero_iff.mp (by rw[←hlen,h0];rfl)
     subst OD
     exact wpAny_pure (hQ _ hd (Heap.SameBut.refl _ _))
  ·exact go
 ·exact go
end
end L3
namespace L3
open PySem PySem.Spec L2
open PyProof.Rows hiding St
theorem EE{P:Program}{w:World}{h:Heap}{k:List Key}{a:Addr}(h1:(tupleKind (aV P w)).is h k a):∃ob,h.get? a=some ob∧ob.cls= .type "tuple":=by
 obtain⟨ob,aF,n,q1,q2,_⟩:=h1
 exact⟨ob,q1,q2⟩
def gZ(aw more:List (List Key×V)):List (List Key×V):=more.foldl (fun acc kv=>putK acc kv.1 kv.2) aw
theorem yb{H:Hp}:∀{more:List (List Key×V)}{ys:List (List Key×Addr×Value)},KT H more ys→∀{aw:List (List Key×V)}{xs:List (List Key×Addr×Value)},KT H aw xs→KT H (gZ aw more) (ck xs ys)
 |_,_, .nil,_,_,q=>q
 |_,_, .cons h t,aw,xs,r=>by
  refine yb t ?_
  have:=KT.put r _ h.2.1 h.2.2
  rw[h.1] at this
  show KT H (putK aw _ _) (storedH xs _ _ _)
  rw[h.1]
  exact this
theorem nR:∀(more aw:List (List Key×V)),(gZ aw more).length≤aw.length+more.length
 |[],aw=>Nat.le_refl _
 |p::r,aw=>by
  have h1:=nR r (putK aw p.1 p.2)
  have h2:=dW aw p.1 p.2
  show (gZ (putK aw p.1 p.2) r).length≤_
  rw[List.length_cons];omega
def dF(k:List Int):Int:=reduceHash (Builtin.Tuple.tupleHashOf (k.map hashInt))
theorem AS{P:Program}{w:World}(k:List Int):(tupleKind (aV P w)).hash (nO k)=dF k:=by
 show reduceHash (Builtin.Tuple.tupleHashOf ((nO k).map (Jh w)))=_
 unfold dF nO
 rw[List.map_map]
 rfl
section
variable{X:Cx}{pins:List (Addr×Obj)}{σ:St}{H:Hp}{s:Shared}{a b:Addr}{A:Around}{E:Value→Shared→Prop}
theorem As{aw more:List (List Key×V)}{ks:List (List Int)}{Q:Value→Shared→Prop}(hu:A.units+2<cLine)(I:Inv X pins σ H s)(ha:H a=some (.dT aw))(hb:Rd H b (.dT more))(yV:a≠b)(hk:more.map (·.1)=ks.map nO)
 (hh:aw=[]→(ks.map dF).Nodup)(hz:aw.length+more.length≤sizeLine)(h:∀s',Inv X pins σ (upd H a (.dT (gZ aw more))) s'→Q .none s'):
 wpAny (model X.prog X.w) A (call (.builtin "dict.update") [.ref a, .ref b]) Q E s:=by
 obtain⟨z1,lo1,xs,JJ,Mx⟩:=Ay I.hok ha
 obtain⟨z2,Ph,ys,Eo,De⟩:=nr I.hok hb
 have l1:=Paired.length JJ
 have l2:=Paired.length Eo
 have hT:=Mx.typeIs
 refine wpAny_call_entry PySem.F.slot_dict_update hT PySem.F.entry_dict_update ?_ (PySem.F.args_dict_update_2 _ _)
 unfold Builtin.«dict.update»
 refine wpAny_bind ?_
 unfold Builtin.Dict.selfAndRest
 refine wpAny_bind (wpAny_notOrdered_dict hT ?_)
 show wpAny _ _ (pure (a,[Value.ref b])) _ _ s
 refine wpAny_pure ?_
 show wpAny _ _ (Builtin.Dict.updateFrom "dict.update" a (.ref b) [] .none) _ _ s
 unfold Builtin.Dict.updateFrom
 refine wpAny_bind (wpAny_typeOf De.typeIs ?_)
 rw[if_neg (by decide)]
 refine wpAny_bind ?_
 unfold Builtin.Dict.merge
 refine wpAny_bind ?_
 unfold Builtin.Dict.readDirectly
 refine wpAny_bind (wpAny_isInstance De.typeIs isSubtype_dict_dict ?_)
 simp only[Bool.not_true,Bool.false_eq_true,if_false]
 refine wpAny_bind (wpAny_specialOf De.typeIs PySem.F.slot_dict_iter.lookup (wpAny_pure ?_))
 simp only[beq_self_eq_true,if_true]
 refine wpAny_bind (wpAny_pure ?_)
 refine nX (knd:=tupleKind (aV X.prog X.w)) (show A.in1.units<cLine by show A.units+1<cLine;omega) yV Ph Mx De EE (fun e0=>?_) (by omega) fun h' Au rY=>?_
 ·have e1:aw=[]:=List.length_eq_zero_iff.mp (by rw[l1,e0];rfl)
  have:=hh e1
  have e2:(ys.map fun y=>(tupleKind (aV X.prog X.w)).hash y.1)=ks.map dF:=by
   have e3:more.map (·.1)=ys.map (·.1):=l8 (fun _ _ r=>r.1) Eo
   rw[show (fun y:List Key×Addr×Value=>(tupleKind (aV X.prog X.w)).hash y.1)=(tupleKind (aV X.prog X.w)).hash∘(·.1) from rfl,←List.map_map,←e3,hk,List.map_map]
   exact List.map_congr_left fun k _=>AS k
  rw[e2];exact this
 ·show wpAny _ _ (Builtin.Dict.addKeywords a []>>=_) _ _ _
  refine wpAny_bind (wpAny_pure (wpAny_pure ⟨.none,rfl,h _ ?_⟩))
  obtain⟨q,es,ep,hq,h2,h3,h4,_,h5⟩:=Au
  have hl:(gZ aw more).length≤sizeLine:=by have:=nR more aw;omega
  refine jy I (t':=s.toks) (by rw[ha];exact True.intro) rY ⟨q,hq⟩ ⟨hl,lo1,_,(yb Eo JJ).keeps fun c ys ec=>?_,q,es,ep,hq,h2,h3,h4,h5⟩
  rw[av (Bo ec ha (fun z=>nomatch z))]
  exact ec
end
def bM(ks:List (List Key))(ds:List D):List (List Key)→List D→List (List Key)×List D
 |k::ks',d::ds'=>bM (cW ks ds k) (b8 ks ds k d) ks' ds'
 |_,_=>(ks,ds)
def CM(ks:List (List Key))(ds:List D):D→Option C
 | .dct ks' ds'=>match eK ks' with
   |some ns=>if ds.length+ds'.length≤lim∧(ks.isEmpty=true→(ns.map dF).Nodup) then some (.dct (bM ks ds ks' ds').1 (bM ks ds ks' ds').2) else none
   |none=>none
 |_=>none
theorem nV{K:W.Frag}{F:Hp}:∀{ks':List (List Key)}{ds':List D}{vs':List V}{ks:List (List Key)}{ds:List D}{vs:List V},DenL K F ds' vs'→ks'.length=ds'.length→DenL K F ds vs→ks.length=ds.length→
 ∃ws,gZ (ks.zip vs) (ks'.zip vs')=(bM ks ds ks' ds').1.zip ws∧DenL K F (bM ks ds ks' ds').2 ws∧(bM ks ds ks' ds').1.length=(bM ks ds ks' ds').2.length
 |[],[],vs',ks,ds,vs,h',_,h,hl=>⟨vs,rfl,h,hl⟩
 |k::ks',d::ds',vs',ks,ds,vs,⟨v,r,e,h1,h2⟩,AZ,h,hl=>by
  subst e
  obtain⟨ws,e1,e2,e3⟩:=sJ (K:=K) (F:=F) h1 k h hl
  obtain⟨us,q1,q2,q3⟩:=nV (ks':=ks') (ds':=ds') (vs':=r) h2 (by simpa using AZ) e2 e3
  refine⟨us,?_,q2,q3⟩
  show gZ (putK (ks.zip vs) k v) (ks'.zip r)=_
  rw[e1]
  exact q1
 |[],_::_,_,_,_,_,_,AZ,_,_=>by simp at AZ
 |_::_,[],_,_,_,_,_,AZ,_,_=>by simp at AZ
theorem B7{κ:Type}[DecidableEq κ]{ks:List κ}{ds:List D}{k:κ}{d:D}(hl:ks.length=ds.length):(b8 ks ds k d).length≤ds.length+1:=by
 unfold b8
 split
 ·rw[hX ks ds k d hl];omega
 ·simp
theorem B8{κ:Type}[DecidableEq κ]{ks:List κ}{ds:List D}{k:κ}{d:D}(hl:ks.length=ds.length):(cW ks ds k).length=(b8 ks ds k d).length:=by
 unfold b8 cW
 split
 ·rw[hX ks ds k d hl];exact hl
 ·simp[hl]
theorem nW:∀{ks':List (List Key)}{ds':List D}{ks:List (List Key)}{ds:List D},ks.length=ds.length→(bM ks ds ks' ds').2.length≤ds.length+ds'.length
 |[],ds',ks,ds,_=>by show ds.length≤_;omega
 |_::_,[],ks,ds,_=>by show ds.length≤_;simp
 |k::ks',d::ds',ks,ds,hl=>by
  have h1:=nW (ks':=ks') (ds':=ds') (ks:=cW ks ds k) (ds:=b8 ks ds k d) (B8 hl)
  have h2:=B7 (k:=k) (d:=d) hl
  show (bM (cW ks ds k) (b8 ks ds k d) ks' ds').2.length≤_
  rw[List.length_cons];omega
section
variable{X:Cx}{Xw:Nat→Hp→Prop}{o e f:Expr}{δ δo δe δf:DE}{pos p apos a6:Pos}{x:Str}{i:Nat}
def zN(i:Nat)(δ:DE):DS:=fun ρ=>match zB ρ i with
 |some (.dct ks ds)=>δ ρ>>=fun d=>match CM ks ds d with
  |some c'=>M.ret (.nx (ρ.set i (some (.ow c'))))
  |none=>M.stuck
 |_=>M.stuck
theorem G6{td ty:TE}(hu:X.A.units+2<cLine)(ho:PE X o td)(he:PE X e ty)(m:M1 X o "update" apos e a6):
 PE X (.Call (.Attribute o "update" apos) [e] [] a6) (fun σ H Q=>td σ H fun x H1=>∃a,x= .ref a∧HS H1 a∧ty σ H1 fun y H2=>∃(b:Addr) (aw more:List (List Key×V)) (ks:List (List Int)),y= .ref b∧H2 a=some (.dT aw)∧Rd H2 b (.dT more)∧a≠b∧more.map (·.1)=ks.map nO∧(aw=[]→(ks.map dF).Nodup)∧aw.length+more.length≤sizeLine∧Q .non (upd H2 a (.dT (gZ aw more)))):=by
 intro pins s σ H Q I h
 refine wpAny_Call_method m.base m.few m.line PySem.F.plainAttrs_dict PySem.F.slot_dict_update (by rfl) (bG (ho pins s σ H _ I h) fun u s1 ⟨x,H1,I1,rx,a,ex,d,q1⟩=>?_)
 subst ex
 obtain rfl:u=Value.ref a:=rx
 obtain⟨t1,t2,_⟩:=v9 I1 d
 refine⟨t1,t2,?_⟩
 rw[m.trees]
 refine Calls.callWith_builtin rfl (Calls.evalArgs_plain (Calls.spliced_cons (bG (he pins s1 σ H1 _ I1 q1) fun iv s2 ⟨y,H2,I2,ry,b,aw,more,ks,ey,k1,k2,k3,k4,k5,k6,q2⟩=>Calls.spliced_nil ?_)))
 subst ey
 obtain rfl:iv=Value.ref b:=ry
 exact As hu I2 k1 k2 k3 k4 k5 k6 fun s3 I3=>⟨.non,_,I3,rfl,q2⟩
theorem Ek(hu:X.A.units+64<cLine)(hv:PE X (.Name x p) (o4 i))(he:PD X Xw e δ)(m:M1 X (.Name x p) "update" apos e a6)(hs:swapsWith (.Call (.Attribute (.Name x p) "update" apos) [e] [] a6) none pos.line X.env=pure false:=by rfl):
 fE X Xw (.Expr (.Call (.Attribute (.Name x p) "update" apos) [e] [] a6) pos) (zN i δ):=fun F₀ H₀=>PS.weak (mT (G6 (by omega) hv he m) hs) fun D σ H ⟨F,ρ,s,w⟩=>by
 unfold zN at w
 split at w
 ·rename_i ks ds Kf
  have hi:=qK Kf
  obtain⟨v,DB,a,oh,rfl,hH,hF,vs,rfl,hd,hl,hz⟩:=s.st.den i _ hi
  refine⟨.ref a,DB,a,rfl, .inr ⟨_, .inl hH⟩,F,ρ,s.st,?_⟩
  rcases(δ ρ).cs with q | ⟨n,q⟩ | ⟨d,q⟩
  ·rw[q] at w;exact w.elim
  ·rw[q] at w⊢;exact fun F' H' e'=>w F' H' (s.ext.trans e')
  ·rw[q] at w⊢
   intro u H1 F1 e1 hq
   have w:WPS X.K Xw F₀ H₀ (match CM ks ds d with | some c'=>M.ret (.nx (ρ.set i (some (.ow c')))) | none=>M.stuck) D:=w
   cases d with
   |dct ks' ds'=>
    obtain⟨b,ob,vs',rfl,k2,k3,k4,k5⟩:=hq
    cases hc:CM ks ds (.dct ks' ds') with
    |none=>rw[hc] at w;exact w.elim
    |some c'=>
     rw[hc] at w
     have hc:(match eK ks' with | some ns=>if ds.length+ds'.length≤lim∧(ks.isEmpty=true→(ns.map dF).Nodup) then some (C.dct (bM ks ds ks' ds').1 (bM ks ds ks' ds').2) else none | none=>none)=some c':=hc
     cases hn:eK ks' with
     |none=>rw[hn] at hc;cases hc
     |some ns=>
      rw[hn] at hc
      have hc:(if ds.length+ds'.length≤lim∧(ks.isEmpty=true→(ns.map dF).Nodup) then some (C.dct (bM ks ds ks' ds').1 (bM ks ds ks' ds').2) else none)=some c':=hc
      split at hc
      ·rename_i IG
       cases hc
       have MT:=DenL.mono e1.ff hd
       have l1:=MT.len
       have l2:=k3.len
       have yV:a≠b:=fun z=>by
        have:=e1.old hH (fun _ z=>nomatch z)
        rw[hF,z,k2] at this
        cases this
       obtain⟨ws,m1,m2,m3⟩:=nV k3 k4 MT hl
       refine⟨b,ks.zip vs,ks'.zip vs',ns,rfl,e1.hh _ _ hH, .inr ⟨ob,e1.fh _ _ k2⟩,yV,by rw[iL (by rw[k4];exact l2),kL hn],fun z=>IG.2 ?_,?_,?_⟩
       ·have:=iL (a:=ks) (b:=vs) (by rw[hl];exact l1)
        rw[z] at this
        rw[←this];rfl
       ·rw[List.length_zip,List.length_zip]
        have:=dH
        omega
       ·rw[m1]
        exact w σ F1 _ ((s.ext' e1).chg (c₀:= .dct (bM ks ds ks' ds').1 (bM ks ds ks' ds').2) hi DB ⟨ws,rfl,m2,m3,by have:=nW (ks':=ks') (ds':=ds') hl;omega⟩)
      ·cases hc
   |_=>exact w.elim
 ·exact w.elim
end
section
variable{X:Cx}{Xw:Nat→Hp→Prop}{o e f:Expr}{δ δo δe δf:DE}{δs:DA}{pos p apos a6:Pos}{x:Str}{i:Nat}
def nI:D→Bool
 | .dct _ _=>true
 | .dci _ _=>true
 |_=>false
theorem xX{K:W.Frag}{F H:Hp}{d:D}{x:V}(s:Same F H)(hd:Den K F d x)(e:nI d=true):∃a,x= .ref a∧HS H a:=by
 cases d with
 |dct ks ds=>obtain⟨a,ob,vs,rfl,h2,_⟩:=hd;exact⟨a,rfl, .inr ⟨_, .inr ⟨ob,s _ _ h2⟩⟩⟩
 |dci ks ds=>obtain⟨a,ob,vs,rfl,h2,_⟩:=hd;exact⟨a,rfl, .inl ⟨_, .inr ⟨ob,s _ _ h2⟩⟩⟩
 |_=>cases e
def getM(d k v:D):M D:=match CU d k with
 |some (some x)=>M.ret x
 |some none=>M.ret v
 |none=>M.stuck
def Ib(δo δe:DE):DE:=fun ρ=>δo ρ>>=fun d=>if nI d then δe ρ>>=fun k=>getM d k .non else M.stuck
def p_(δo δe δf:DE):DE:=fun ρ=>δo ρ>>=fun d=>if nI d then δe ρ>>=fun k=>δf ρ>>=fun v=>getM d k v else M.stuck
theorem uk{F H:Hp}{d k v:D}{a:Addr}{y z:V}{Q:VK}(s:Same F H)(q1:Den X.K F d (.ref a))(q2:Den X.K F k y)(q3:Den X.K F v z)(w:WP X.K Xw F H (getM d k v) Q):∃ov,mx H a y ov∧Q (ov.getD z) H:=by
 unfold getM at w
 cases CZ:CU d k with
 |none=>rw[CZ] at w;exact w.elim
 |some o'=>
  rw[CZ] at w
  obtain⟨a',ov,zz,h2,h3,h4⟩:=xt s q1 q2 CZ
  cases zz
  refine⟨ov,h2,?_⟩
  cases o' with
  |none=>
   cases ov with
   |none=>exact WP.now w s q3
   |some _=>cases h3
  |some d'=>
   obtain⟨v,rfl,hv⟩:=h4 d' rfl
   exact WP.now w s hv
theorem Km(hu:X.A.units+64<cLine)(ho:PD X Xw o δo)(he:PD X Xw e δe)(m:M1 X o "get" apos e a6):PD X Xw (.Call (.Attribute o "get" apos) [e] [] a6) (Ib δo δe):=
 PE.weak (BQ (by omega) ho he m) fun σ H Q ⟨F,ρ,s,w⟩=>by
  refine⟨F,ρ,s,WP.mono (WP.bind w) fun x H1 ⟨F1,d,e1,q1,w1⟩=>?_⟩
  split at w1
  ·rename_i hd
   obtain⟨a,rfl,LQ⟩:=xX e1.fh q1 hd
   refine⟨a,rfl,LQ,F1,ρ,s.ext e1,WP.mono (WP.bind w1) fun y H2 ⟨F2,k,e2,q2,w2⟩=>?_⟩
   exact uk (v:= .non) (z:= .non) e2.fh (Den.mono e2.ff q1) q2 (show V.non=V.non from rfl) w2
  ·exact w1.elim
theorem D8(hu:X.A.units+64<cLine)(ho:PD X Xw o δo)(he:PD X Xw e δe)(hf:PD X Xw f δf)(m:M2 X o "get" apos e f a6):PD X Xw (.Call (.Attribute o "get" apos) [e,f] [] a6) (p_ δo δe δf):=
 PE.weak (BR (by omega) ho he hf m) fun σ H Q ⟨F,ρ,s,w⟩=>by
  refine⟨F,ρ,s,WP.mono (WP.bind w) fun x H1 ⟨F1,d,e1,q1,w1⟩=>?_⟩
  split at w1
  ·rename_i hd
   obtain⟨a,rfl,LQ⟩:=xX e1.fh q1 hd
   refine⟨a,rfl,LQ,F1,ρ,s.ext e1,WP.mono (WP.bind w1) fun y H2 ⟨F2,k,e2,q2,w2⟩=>?_⟩
   refine⟨F2,ρ,(s.ext e1).ext e2,WP.mono (WP.bind w2) fun z H3 ⟨F3,v,e3,q3,w3⟩=>?_⟩
   exact uk e3.fh (Den.mono e3.ff (Den.mono e2.ff q1)) (Den.mono e3.ff q2) q3 w3
  ·exact w1.elim
def lK:List D→M D
 |[.dci ks _]=>M.ret (.int ks.length)
 |_=>M.stuck
theorem vO:CallR X (.builtin "len") (fun xs H Q=>∃a aw,xs=[.ref a]∧Rd H a (.dK aw)∧Q (.int aw.length) H):=by
 intro pins s σ H xs us Q I r ⟨a,aw,e,h,q⟩
 subst e
 obtain⟨u,rfl,ru⟩:=r.one
 cases (show u=_ from ru)
 exact Ie I h fun t s' I'=>⟨.int aw.length,H,I',⟨_,rfl⟩,q⟩
theorem D9(hg:Gl X "len")(hm:X.mg "len"=none)(ha:mV X Xw [e] δs)(he:starEach [e] X.env=[(false,eval e X.env)]:=by rfl):PD X Xw (.Call (.Name "len" p) [e] [] pos) (dA lK δs):=
 dq vO (fun Xw F H vs ds Q s h w=>by
  unfold lK at w
  split at w
  ·rename_i ks es
   obtain⟨v,rfl,h1⟩:=h.one
   obtain⟨a,ob,ws,rfl,h2,h3,h4,h5⟩:=h1
   refine⟨a,_,rfl, .inr ⟨ob,s _ _ h2⟩,?_⟩
   rw[tE h3 h4,←h4]
   exact WP.now w s rfl
  ·exact w.elim) hg hm PySem.boot_len ha (by decide) (by decide) he rfl
end
section
variable{X:Cx}{Xw:Nat→Hp→Prop}{a b e HI:Expr}{δ δa δb δs:DE}{pos p2:Pos}
end
section
variable{prog:Program}{w:World}{A:Around}{E:Value→Shared→Prop}{s:Shared}
end
def rS:List Nat→EM
 |[]=>Ir
 |i::is=>EV (AO i) (rS is)
def wZ:List Nat→List D→aY→aY
 |i::is,d::ds,ρ=>wZ is ds (ρ.set i (some (.fz d)))
 |_,_,ρ=>ρ
def oK(is:List Nat):D→aY→Option aY
 | .tup ds,ρ=>if ds.length=is.length then some (wZ is ds ρ) else none
 |_,_=>none
theorem ra{K:W.Frag}{F₀ H₀ F H:Hp}{Q:St→Hp→Prop}:∀(is:List Nat) (ds:List D) (vs:List V) (σ:St) (ρ:aY),ds.length=is.length→StOk K F₀ H₀ F H σ ρ→DenL K F ds vs→(∀σ',StOk K F₀ H₀ F H σ' (wZ is ds ρ)→Q σ' H)→rS is vs σ H Q
 |[],[],vs,σ,ρ,_,s,h,k=>⟨h,k σ s⟩
 |i::is,d::ds,vs,σ,ρ,hl,s,⟨v,r,e,h1,h2⟩,k=>by
  subst e
  exact⟨v,r,rfl,ra is ds r _ _ (by simpa using hl) (s.set h1) h2 k⟩
 |[],_::_,_,_,_,hl,_,_,_=>by simp at hl
 |_::_,[],_,_,_,hl,_,_,_=>by simp at hl
theorem sL{K:W.Frag}{is:List Nat}:xo K (FJ K is.length (rS is)) (oK is):=fun F₀ H₀ F H σ ρ ρ' d v Q s q e k=>by
 unfold oK at e
 split at e
 ·rename_i ds
  split at e
  ·rename_i hl
   cases e
   obtain⟨a,vs,rfl,hs,hd,_⟩:=q
   exact⟨a,vs,rfl,SqT.of (s.st.fh _ _ hs),by rw[←hd.len];exact hl,ra is ds vs σ ρ hl s hd k⟩
  ·cases e
 ·cases e
theorem Eu:∀{σ' σ:St},1<σ'.length→σ'.drop 2=σ→∀v1 v2:V,(σ'.set 0 (some v1)).set 1 (some v2)=[v1,v2].map some++σ
 |x1::x2::r,_,_,hd,v1,v2=>by subst hd;rfl
 |[],_,h,_,_,_=>by simp at h
 |[_],_,h,_,_,_=>by simp at h
theorem DP:∀{ds:List D},ds.length=2→∃a b,ds=[a,b]
 |[a,b],_=>⟨a,b,rfl⟩
 |[],h=>by simp at h
 |[_],h=>by simp at h
 |_::_::_::_,h=>by simp at h
theorem HA{X:Cx}{x y:Str}{px py pt:Pos}{x1:Nat}{σ:St}(hN:X.N.Nodup)(h0:X.N[0]? =some x)(h1:X.N[1]? =some y)(hx:X.env.scope.names.lookup x=some .local)(hy:X.env.scope.names.lookup y=some .local)(hc:X.calm=true)
 (hn:(assignEach [Expr.Name x px, .Name y py] X.env).length=2:=by rfl)(v7:(assignEach [Expr.Name x px, .Name y py] X.env).findIdx? (·.1)=none:=by rfl)
 (hs:(assignEach [Expr.Name x px, .Name y py] X.env).map (·.2)=assign (.Name x px) X.env::(assignEach [Expr.Name y py] X.env).map (·.2):=by rfl)(HM:(assignEach [Expr.Name y py] X.env).map (·.2)=assign (.Name y py) X.env::(assignEach [] X.env).map (·.2):=by rfl):yz X (.Tuple [.Name x px, .Name y py] x1 pt) 2 σ:=fun pins s σ' F H d ts v u I fh hd rv q e=>by
 cases d with
 |tup ds=>
  have e:(if ds.length=2 then M.ret ds else M.stuck)=M.ret ts:=e
  split at e
  ·rename_i hl
   obtain rfl:=er e
   obtain⟨d1,d2,rfl⟩:=DP hl
   ·obtain⟨a,vs,rfl,rY,pk,_⟩:=q
    obtain⟨v1,v2,rfl,q1,q2⟩:=pk.two
    have G:PG X (.Tuple [.Name x px, .Name y py] x1 pt) (FJ X.K 2 (rS [0,1])):=sH hc (dZ (ba hN h0 (.inl hx) (.inr hx)) (dZ (ba hN h1 (.inl hy) (.inr hy)) mS HM) hs) hn v7
    refine bG (G pins s σ' H (.ref a) u (fun σ2 H2=>H2=H∧σ2=(σ'.set 0 (some v1)).set 1 (some v2)) I rv ⟨a,[v1,v2],rfl,SqT.of (fh _ _ rY),rfl,v1,[v2],rfl,v2,[],rfl,rfl,rfl,rfl⟩) fun _ s2 ⟨σ2,H2,I2,e1,e2⟩=>?_
    subst e1 e2
    refine⟨[v1,v2],?_, .cons q1 (.cons q2 .nil)⟩
    have hl:1<σ'.length:=by rw[I.len];exact(List.getElem?_eq_some_iff.mp h1).1
    have:=Eu hl (show σ'.drop 2=σ from hd) v1 v2
    rw[←this]
    exact I2
  ·exact(eS e).elim
 |_=>exact(eS e).elim
section
variable{prog:Program}{w:World}{A:Around}{E:Value→Shared→Prop}{s:Shared}
end
section
variable{prog:Program}{w:World}{A:Around}{E:Value→Shared→Prop}{s:Shared}
end
section
variable{X:Cx}{Xw:Nat→Hp→Prop}{a b e e2:Expr}{δa δb:DE}{δs:DA}{p pos:Pos}
end
mutual
def ER:D→Bool
 | .non=>true
 | .bl _=>true
 | .int _=>true
 | .str _=>true
 | .tup ds=>tZ ds
 | .lst ds=>tZ ds
 | .raw _=>false
 | .exc _=>false
 | .scr _=>false
 | .dct _ _=>false
 | .dci _ _=>false
def tZ:List D→Bool
 |[]=>true
 |d::ds=>ER d&&tZ ds
end
def uT(ρ:aY):Bool:=ρ.all fun x=>match x with
 |some (.ow (.lst _))=>false
 |_=>true
theorem BE{ρ:aY}{i:Nat}{ds:List D}(h:uT ρ=true)(e:ρ[i]? =some (some (.ow (.lst ds)))):False:=by
 have:=List.all_eq_true.mp h _ (List.mem_of_getElem? e)
 cases this
section
variable{K:W.Frag}{F H F' H':Hp}{σ:St}{ρ:aY}{h:Heap}{b:Addr}
theorem OwnAt.dict(S:StE K F H σ ρ)(hd:uT ρ=true)(p:OwnAt σ ρ b):∃o,H b=some o∧((∃x,o= .dT x)∨∃x,o= .dK x):=by
 obtain⟨i,c,h1,h2⟩:=p
 obtain⟨v,h3,a,o,rfl,h4,h5,h6⟩:=S.den i _ h1
 rw[h3] at h2
 cases h2
 refine⟨o,h4,?_⟩
 cases c with
 |lst ds=>exact(BE hd h1).elim
 |dct ks ds=>obtain⟨vs,rfl,_⟩:=h6;exact .inl ⟨_,rfl⟩
 |dci ks ds=>obtain⟨vs,rfl,_⟩:=h6;exact .inr ⟨_,rfl⟩
open Classical in
theorem ye(S:StE K F H σ ρ)(hd:uT ρ=true)(E:Ext (fA σ ρ (refA h (OwnAt σ ρ) H) F) (refA h (OwnAt σ ρ) H) F' H'){a:Addr}{o:HO}(e:F' a=some o)(fL:∀q u,o≠ .frz q u):(if OwnAt σ ρ a then none else F' a)=some o:=by
 rw[if_neg,e]
 intro hp
 obtain⟨o',k1,k2⟩:=OwnAt.dict S hd hp
 have k3:fA σ ρ (refA h (OwnAt σ ρ) H) F a=some (gQ ((h.get? a).getD {cls:= .none,data:= .fields #[]}) o'):=by
  unfold fA refA
  rw[if_pos hp,if_pos hp,k1]
  rfl
 have k4:=E.ff a _ k3
 rw[e] at k4
 rcases k2 with⟨x,rfl⟩ | ⟨x,rfl⟩<;>cases k4<;>exact fL _ _ rfl
open Classical in
mutual
theorem Av(S:StE K F H σ ρ)(hd:uT ρ=true)(E:Ext (fA σ ρ (refA h (OwnAt σ ρ) H) F) (refA h (OwnAt σ ρ) H) F' H'):∀{d:D}{v:V},ER d=true→Den K F' d v→Den K (fun b=>if OwnAt σ ρ b then none else F' b) d v
 | .non,_,_,q=>q
 | .bl _,_,_,q=>q
 | .int _,_,_,q=>q
 | .str _,_,_,q=>q
 | .tup ds,_,f,⟨a,vs,h1,h2,h3,h4⟩=>⟨a,vs,h1,ye S hd E h2 (fun _ _ z=>nomatch z),kH S hd E f h3,h4⟩
 | .lst ds,_,f,⟨a,vs,h1,h2,h3,h4⟩=>⟨a,vs,h1,ye S hd E h2 (fun _ _ z=>nomatch z),kH S hd E f h3,h4⟩
 | .raw _,_,f,_=>by cases f
 | .exc _,_,f,_=>by cases f
 | .scr _,_,f,_=>by cases f
 | .dct _ _,_,f,_=>by cases f
 | .dci _ _,_,f,_=>by cases f
theorem kH(S:StE K F H σ ρ)(hd:uT ρ=true)(E:Ext (fA σ ρ (refA h (OwnAt σ ρ) H) F) (refA h (OwnAt σ ρ) H) F' H'):∀{ds:List D}{vs:List V},tZ ds=true→DenL K F' ds vs→DenL K (fun b=>if OwnAt σ ρ b then none else F' b) ds vs
 |[],_,_,q=>q
 |d::ds,_,f,⟨v,r,h1,h2,h3⟩=>by
  unfold tZ at f
  rw[Bool.and_eq_true] at f
  exact⟨v,r,h1,Av S hd E f.1 h2,kH S hd E f.2 h3⟩
end
end
section
variable{X:Cx}{Xw:Nat→Hp→Prop}{e:Expr}{δ:DE}
end
def J4(δ:DE):DE:=fun ρ=>noex (δ (yS ρ))>>=qc
def CJ(τ:DT):DT:=fun ρ=>noex (τ (yS ρ))
section
variable{X:Cx}{Xw:Nat→Hp→Prop}{st:Stmt}{τ:DS}{is:List Nat}
end
section
variable{X:Cx}{Xw:Nat→Hp→Prop}{a b e o:Expr}{δ δa δb δo:DE}{δl:DA}{pos apos a6:Pos}
theorem kl{x y:Str}(h:x.cps.toList=y.cps.toList):x=y:=by
 obtain⟨⟨a⟩⟩:=x
 obtain⟨⟨b⟩⟩:=y
 cases (show a=b from h)
 rfl
end
section
variable{X:Cx}{Xw:Nat→Hp→Prop}{e:Expr}{δs:DA}{pos p:Pos}
end
section
variable{X:Cx}{Xw:Nat→Hp→Prop}{a b e o k v k' v':Expr}{δ δa δb δo δk δv δk' δv':DE}{δl δs:DA}{pos apos a6 p:Pos}
theorem GU{δ:DF}(h:J2 X Xw e δ):PD X Xw e (fun ρ=>δ ρ>>=fun c=>M.ret c.d):=fun pins s σ H Q I ⟨F,ρ,S,w⟩=>by
 have w:WP X.K Xw F H (δ ρ>>=fun c=>M.ret c.d) Q:=w
 refine wpAny_mono (h pins s σ H (fun v H1=>∃c a o F1,v= .ref a∧Ext F H F1 H1∧H1 a=some o∧F1 a=none∧H a=none∧DenC X.K F1 c o∧WP X.K Xw F H (M.ret c.d) Q) I ⟨F,ρ,S,?_⟩) ?_ (fun _ _ z=>z)
 ·match q:δ ρ,w with
  |none,w=>exact w
  |some (.ex n),w=>exact w
  |some (.ok c),w=>exact fun a o H' F' E h1 h2 h3 h4=>⟨c,a,o,F',rfl,E,h1,h2,h3,h4,w⟩
 ·intro u s1 ⟨v,H1,I1,rv,c,a,o,F1,ev,E,h1,h2,h3,h4,w1⟩
  subst ev
  have ff:Same F1 (upd F1 a (gQ ((s1.heap.get? a).getD {cls:= .none,data:= .fields #[]}) o)):=fun b o e=>by rw[av (fun z=>by rw[z,h2] at e;cases e)];exact e
  have fh:Same (upd F1 a (gQ ((s1.heap.get? a).getD {cls:= .none,data:= .fields #[]}) o)) (upd H1 a (gQ ((s1.heap.get? a).getD {cls:= .none,data:= .fields #[]}) o)):=fun b o e=>by
   by_cases z:b=a
   ·rw[z,az] at e⊢;exact e
   ·rw[av z] at e⊢;exact E.fh b o e
  refine⟨.ref a,upd H1 a (gQ ((s1.heap.get? a).getD {cls:= .none,data:= .fields #[]}) o),L3.Inv.refrz I1 h1 ?_,rv,w1 _ _ (upd F1 a (gQ ((s1.heap.get? a).getD {cls:= .none,data:= .fields #[]}) o)) ⟨fun b u q=>?_,E.ff.trans ff,fh,fun b hb=>?_⟩ (DenC.den h4 ff az)⟩
  ·cases c with
   |lst ds=>obtain⟨vs,rfl,_⟩:=h4;exact .inl rfl
   |dct ks ds=>obtain⟨vs,rfl,_⟩:=h4;exact .inr ⟨_,rfl, .inl ⟨_,rfl,rfl⟩⟩
   |dci ks ds=>obtain⟨vs,rfl,_⟩:=h4;exact .inr ⟨_,rfl, .inr ⟨_,rfl,rfl⟩⟩
  ·rw[av (fun z=>by rw[z,h3] at q;cases q)];exact E.hh b u q
  ·rcases E.new b hb with q | q
   ·exact .inl (by rw[av (fun z=>hb (by rw[z];exact h3))];exact q)
   ·exact .inr q
theorem yQ{o0:HO}(hu:X.A.units+1<cLine)(h0:∀(H:Hp) (h:Heap),sysModules<h.objs.size→ObjOk X.prog X.w H (h.push {cls:= .type "dict",data:= .dict #[]}) h.objs.size o0){tk tv HB JZ:TE}(hk:PE X k tk)(hv:PE X v tv)(pq:PE X k' HB)(DB:PE X v' JZ):
 PE X (.Dict [some k,some k'] [v,v'] pos) (fun σ H Q=>∀p,H p=none→tk σ (upd H p o0) fun y H1=>tv σ H1 fun z H2=>HB σ H2 fun y' H3=>JZ σ H3 fun z' H4=>∃H5 H6,DPut H4 p y z H5∧DPut H5 p y' z' H6∧Q (.ref p) H6):=by
 intro pins s σ H Q I q
 have hn:=I.hok.fresh (Nat.le_refl s.heap.objs.size)
 have I1:=I.laid (a:=s.heap.objs.size) (o:=o0) (h':=s.heap.push {cls:= .type "dict",data:= .dict #[]}) (t':=s.toks) (fun _ _ q=>Heap.get?_push_of_some _ q) (Nat.le_refl _) (h0 _ s.heap I.big)
 refine wpAny_Dict_any rfl rfl (by simp) (by simp) (bG (oI hk hv (oI pq DB ym) pins _ σ _ (fun ps H4=>∃y z y' z' H5 H6,ps=[(y,z),(y',z')]∧DPut H4 s.heap.objs.size y z H5∧DPut H5 s.heap.objs.size y' z' H6∧Q (.ref s.heap.objs.size) H6) I1 ?_) fun ws s2 ⟨ps,H2,I2,rel,y,z,y',z',H5,H6,ep,g1,g2,q2⟩=>?_)
 ·have:=q _ hn
  show tk σ _ fun y H1=>tv σ H1 fun z H2=>HB σ H2 fun y' H3=>JZ σ H3 fun z' H4=>∃a b c d H5 H6,[(y,z),(y',z')]=[(a,b),(c,d)]∧DPut H4 s.heap.objs.size a b H5∧DPut H5 s.heap.objs.size c d H6∧Q (.ref s.heap.objs.size) H6
  have e:(fun (y:V) (H1:Hp)=>tv σ H1 fun z H2=>HB σ H2 fun y' H3=>JZ σ H3 fun z' H4=>∃a b c d H5 H6,[(y,z),(y',z')]=[(a,b),(c,d)]∧DPut H4 s.heap.objs.size a b H5∧DPut H5 s.heap.objs.size c d H6∧Q (.ref s.heap.objs.size) H6)=(fun y H1=>tv σ H1 fun z H2=>HB σ H2 fun y' H3=>JZ σ H3 fun z' H4=>∃H5 H6,DPut H4 s.heap.objs.size y z H5∧DPut H5 s.heap.objs.size y' z' H6∧Q (.ref s.heap.objs.size) H6):=by
   funext y H1
   congr 1
   funext z H2
   congr 1
   funext y' H3
   congr 1
   funext z' H4
   refine propext ⟨fun ⟨a,b,c,d,H5,H6,ee,r⟩=>?_,fun⟨H5,H6,r⟩=>⟨y,z,y',z',H5,H6,rfl,r⟩⟩
   cases ee
   exact⟨H5,H6,r⟩
  rw[e]
  exact this
 ·subst ep
  cases rel with
  | @cons a1 w1 PH PL h t=>
   cases t with
   | @cons a2 w2 PJ PM h2 t2=>
    cases t2
    obtain⟨r1,r2⟩:=h
    obtain⟨r3,r4⟩:=h2
    unfold storeAll
    rw[List.forIn_cons]
    refine wpAny_bind (wpAny_bind (Ar hu I2 g1 r1 r2 fun s3 I3=>?_))
    refine wpAny_pure ?_
    show wpAny _ _ (forIn [w2] PUnit.unit _) _ _ _
    rw[List.forIn_cons]
    refine wpAny_bind (wpAny_bind (Ar hu I3 g2 r3 r4 fun s4 I4=>?_))
    refine wpAny_pure ?_
    show wpAny _ _ (forIn ([]:List (Value×Value)) PUnit.unit _) _ _ _
    rw[List.forIn_nil]
    exact wpAny_pure ⟨V.ref s.heap.objs.size,_,I4,rfl,q2⟩
def gO(x y x' y':D):M C:=match nQ x,nQ x' with
 |some a,some b=>M.ret (if a=b then .dci [a] [y'] else .dci [a,b] [y,y'])
 |_,_=>M.stuck
theorem wM(hu:X.A.units+64<cLine)(hk:PD X Xw k δk)(hv:PD X Xw v δv)(pq:PD X Xw k' δk')(DB:PD X Xw v' δv'):
 J2 X Xw (.Dict [some k,some k'] [v,v'] pos) (fun ρ=>δk ρ>>=fun x=>δv ρ>>=fun y=>δk' ρ>>=fun x'=>δv' ρ>>=fun y'=>gO x y x' y'):=
 PE.weak (yQ (o0:= .dK []) (by omega) (fun H h hb=>t6 h hb) hk hv pq DB) fun σ H Q ⟨F,ρ,s,w⟩ q hq=>by
  have e0:=Ext.free (o:= .dK []) s.fh hq
  refine⟨F,ρ,s.ext e0,?_⟩
  have w:WPF X.K Xw F H (δk ρ>>=fun x=>δv ρ>>=fun y=>δk' ρ>>=fun x'=>δv' ρ>>=fun y'=>gO x y x' y') Q:=w
  match PZ:δk ρ,w with
  |none,w=>exact w
  |some (.ex n),w=>exact fun F' H' e'=>w F' H' (e0.trans e')
  |some (.ok kd),w=>
   intro y H1 F1 e1 q1
   refine⟨F1,ρ,(s.ext e0).ext e1,?_⟩
   have w:WPF X.K Xw F H (δv ρ>>=fun y=>δk' ρ>>=fun x'=>δv' ρ>>=fun y'=>gO kd y x' y') Q:=w
   match P_:δv ρ,w with
   |none,w=>exact w
   |some (.ex n),w=>exact fun F' H' e'=>w F' H' (e0.trans (e1.trans e'))
   |some (.ok vd),w=>
    intro z H2 F2 e2 q2
    refine⟨F2,ρ,((s.ext e0).ext e1).ext e2,?_⟩
    have w:WPF X.K Xw F H (δk' ρ>>=fun x'=>δv' ρ>>=fun y'=>gO kd vd x' y') Q:=w
    match P1:δk' ρ,w with
    |none,w=>exact w
    |some (.ex n),w=>exact fun F' H' e'=>w F' H' (e0.trans (e1.trans (e2.trans e')))
    |some (.ok LU),w=>
     intro y' H3 F3 e3 q3
     refine⟨F3,ρ,(((s.ext e0).ext e1).ext e2).ext e3,?_⟩
     have w:WPF X.K Xw F H (δv' ρ>>=fun y'=>gO kd vd LU y') Q:=w
     match Qa:δv' ρ,w with
     |none,w=>exact w
     |some (.ex n),w=>exact fun F' H' e'=>w F' H' (e0.trans (e1.trans (e2.trans (e3.trans e'))))
     |some (.ok Pw),w=>
      intro z' H4 F4 e4 q4
      have w3:WPF X.K Xw F H (gO kd vd LU Pw) Q:=w
      clear w
      unfold gO at w3
      cases Kd:nQ kd with
      |none=>rw[Kd] at w3;exact w3.elim
      |some ka=>
       cases Lh:nQ LU with
       |none=>rw[Kd,Lh] at w3;exact w3.elim
       |some kb=>
        rw[Kd,Lh] at w3
        have E:=e1.trans (e2.trans (e3.trans e4))
        have OO:H4 q=some (.dK []):=E.hh _ _ az
        have ML:F4 q=none:=by
         have:=E.old (a:=q) (o:= .dK []) az (fun _ z=>nomatch z)
         rw[this]
         exact Same.free s.fh hq
        have e5:=gU Kd (Den.mono (e2.trans (e3.trans e4)).ff q1)
        subst e5
        have e6:=gU Lh (Den.mono e4.ff q3)
        subst e6
        have d2:=Den.mono (e3.trans e4).ff q2
        refine⟨_,_,DPut.k (k:=ka) OO (by rw[sizeLine_eq];decide),DPut.k (k:=kb) az (by rw[sizeLine_eq];simp[putK]),?_⟩
        have ext:∀o1 o2:HO,Ext F H F4 (upd (upd H4 q o1) q o2):=fun o1 o2=>⟨fun c u hc=>by
         have fL:c≠q:=fun zz=>by rw[zz,hq] at hc;cases hc
         rw[av fL,av fL]
         exact(e0.trans E).hh c u hc,(e0.trans E).ff,fun c u hc=>by
         have fL:c≠q:=fun zz=>by rw[zz,ML] at hc;cases hc
         rw[av fL,av fL]
         exact e4.fh c u hc,(e0.trans E).new⟩
        refine w3 q _ _ F4 (ext _ _) az ML hq ?_
        by_cases yV:ka=kb
        ·subst yV
         rw[if_pos rfl]
         exact⟨[z'],by simp[putK], .cons q4 .nil,rfl,show 1≤lim by decide⟩
        ·rw[if_neg yV]
         exact⟨[z,z'],by simp[putK,yV], .cons d2 (.cons q4 .nil),rfl,show 2≤lim by decide⟩
def rN(a b c d:DE):DE:=fun ρ=>(a ρ>>=fun x=>b ρ>>=fun y=>c ρ>>=fun x'=>d ρ>>=fun y'=>gO x y x' y')>>=fun c=>M.ret c.d
theorem BK(hu:X.A.units+64<cLine)(hk:PD X Xw k δk)(hv:PD X Xw v δv)(pq:PD X Xw k' δk')(DB:PD X Xw v' δv'):PD X Xw (.Dict [some k,some k'] [v,v'] pos) (rN δk δv δk' δv'):=GU (wM hu hk hv pq DB)
end
section
variable{X:Cx}{Xw:Nat→Hp→Prop}{a b e:Expr}{δ δa δb:DE}{δs:DA}{pos p:Pos}
theorem o_:∀{xs:List V}{us:List Value},xs.length=us.length→(∀(i:Nat) x u,xs[i]? =some x→us[i]? =some u→RelV x u)→Vals xs us
 |[],[],_,_=> .nil
 |x::xs,u::us,hl,h=> .cons (h 0 x u rfl rfl) (o_ (by simpa using hl) fun i y v e1 e2=>h (i+1) y v (by simpa using e1) (by simpa using e2))
end
end L3
namespace L3
open PySem PySem.SetTable
theorem qH{α:Type}[DecidableEq α]:∀{l U:List α},l.Nodup→(∀x∈l,x∈U)→l.length≤U.length
 |[],_,_,_=>Nat.zero_le _
 |a::l,U,hn,h=>by
  have ha:=h a (List.mem_cons_self ..)
  have F9:=List.nodup_cons.mp hn
  have:=qH (l:=l) (U:=U.erase a) F9.2 fun x hx=>(List.mem_erase_of_ne (fun e:x=a=>F9.1 (e▸hx))).mpr (h x (List.mem_cons_of_mem _ hx))
  rw[List.length_erase_of_mem ha] at this
  have:0<U.length:=List.length_pos_of_mem ha
  rw[List.length_cons]
  omega
def iK(m b:Nat):Nat→Nat×Nat
 |0=>(b % (m+1),b)
 |k+1=>leap m (iK m b k).1 (iK m b k).2
def HQ(m i:Nat):Nat:=(i*5+1) % (m+1)
def it(m:Nat):Nat→Nat→Nat
 |0,x=>x
 |n+1,x=>HQ m (it m n x)
theorem nK(m:Nat):∀a b x,it m (a+b) x=it m a (it m b x)
 |0,b,x=>by rw[Nat.zero_add];rfl
 |a+1,b,x=>by rw[Nat.add_right_comm];show HQ m _=HQ m _;rw[nK m a b x]
theorem Jd(m b:Nat):∀k,(iK m b k).2=b / 32 ^ k
 |0=>by simp[iK]
 |k+1=>by
  show (iK m b k).2 / 32=_
  rw[Jd m b k,Nat.div_div_eq_div_mul,Nat.pow_succ]
theorem xT{m b:Nat}(hb:b<2 ^ 64):∀k,(iK m b (k+13)).1=it m k (iK m b 13).1
 |0=>by rw[Nat.zero_add];rfl
 |k+1=>by
  rw[Nat.add_right_comm]
  have hq:(iK m b (k+13)).2 / 32=0:=by
   rw[Jd]
   refine Nat.div_eq_of_lt ?_
   refine Nat.lt_of_le_of_lt (m:=b / 32 ^ 13) ?_ ?_
   ·rw[Nat.pow_add,Nat.mul_comm,←Nat.div_div_eq_div_mul]
    exact Nat.div_le_self ..
   ·have:b / 32 ^ 13<1:=Nat.div_lt_of_lt_mul (by omega)
    omega
  show ((iK m b (k+13)).1*5+1+(iK m b (k+13)).2 / 32) % (m+1)=HQ m _
  rw[hq,xT hb k]
  rfl
def CQ(m:Nat):Prop:=m=7∨m=31∨m=127
def L1(m:Nat):Nat→Nat→List Nat
 |0,_=>[]
 |n+1,x=>x::L1 m n (HQ m x)
theorem wI(m:Nat):∀(n x j:Nat),j∈L1 m n x→∃a,a<n∧it m a x=j
 |0,x,j,h=>by cases h
 |n+1,x,j,h=>by
  rcases List.mem_cons.mp h with rfl | h
  ·exact⟨0,by omega,rfl⟩
  ·obtain⟨a,ha,e⟩:=wI m n (HQ m x) j h
   exact⟨a+1,by omega,by rw[nK m a 1 x];exact e⟩
theorem D5{m:Nat}(hm:CQ m):(∀j,j<m+1→j∈L1 m (m+1) 0)∧it m (m+1) 0=0:=by
 rcases hm with rfl | rfl | rfl
 ·exact⟨by decide+kernel,by decide+kernel⟩
 ·exact⟨by decide+kernel,by decide+kernel⟩
 ·exact⟨by decide+kernel,by decide+kernel⟩
theorem NH{m:Nat}(hm:CQ m){i j:Nat}(hi:i<m+1)(hj:j<m+1):∃n,n≤m∧it m n i=j:=by
 obtain⟨h1,h2⟩:=D5 hm
 obtain⟨a,ha,rfl⟩:=wI m _ 0 i (h1 i hi)
 obtain⟨b,hb,rfl⟩:=wI m _ 0 j (h1 j hj)
 by_cases h:a≤b
 ·exact⟨b - a,by omega,by rw[←nK,Nat.sub_add_cancel h]⟩
 ·refine⟨m+1 - a+b,by omega,?_⟩
  rw[←nK,show m+1 - a+b+a=b+(m+1) by omega,nK,h2]
theorem Jc(m b k:Nat):(iK m b k).1<m+1:=by
 cases k with
 |zero=>exact Nat.mod_lt _ (by omega)
 |succ k=>exact Nat.mod_lt _ (by omega)
theorem reach{m b:Nat}(hm:CQ m)(hb:b<2 ^ 64){j:Nat}(hj:j<m+1):∃k,k≤m+13∧(iK m b k).1=j:=by
 obtain⟨n,hn,e⟩:=NH hm (Jc m b 13) hj
 exact⟨n+13,by omega,by rw[xT hb,e]⟩
theorem xB(h:Int):bits h<2 ^ 64:=by
 unfold bits
 have h1:=Int.emod_nonneg h (show (2 ^ 64:Int)≠0 by decide)
 have h2:=Int.emod_lt_of_pos h (show (0:Int)<2 ^ 64 by decide)
 omega
def CS(t:SetTable):Nat→Probe→Probe
 |0,p=>p
 |n+1,p=>CS t n (t.advance p)
theorem yA(t:SetTable)(p:Probe):(t.advance p).dummy=p.dummy:=by
 unfold advance
 split<;>rfl
theorem rq(t:SetTable):∀a b p,CS t (a+b) p=CS t b (CS t a p)
 |0,b,p=>by rw[Nat.zero_add];rfl
 |a+1,b,p=>by rw[Nat.add_right_comm];exact rq t a b _
def sK(m:Nat)(h:Int)(k:Nat):Probe:={j:=(iK m (bits h) k).1,more:=runEnd m (iK m (bits h) k).1 - (iK m (bits h) k).1,i:=(iK m (bits h) k).1,perturb:=(iK m (bits h) k).2,dummy:=none}
theorem Hi(m i:Nat):runEnd m i - i≤9:=by
 unfold runEnd
 split<;>omega
theorem Aa(t:SetTable):∀(n:Nat) (p:Probe),n≤p.more→CS t n p={p with j:=p.j+n,more:=p.more - n}
 |0,p,_=>rfl
 |n+1,p,h=>by
  show CS t n (t.advance p)=_
  have e:t.advance p={p with j:=p.j+1,more:=p.more - 1}:=by unfold advance;rw[if_pos (by omega)]
  rw[e,Aa t n _ (by show n≤p.more - 1;omega)]
  show ({j:=p.j+1+n,more:=p.more - 1 - n,i:=p.i,perturb:=p.perturb,dummy:=p.dummy}:Probe)=_
  rw[Nat.add_assoc,Nat.add_comm 1 n,Nat.sub_sub,Nat.add_comm 1 n]
theorem Ab{t:SetTable}{h:Int}{k:Nat}:CS t ((sK t.mask h k).more+1) (sK t.mask h k)=sK t.mask h (k+1):=by
 rw[rq,Aa t _ _ (Nat.le_refl _)]
 show t.advance _=_
 unfold advance
 rw[if_neg (show¬(sK t.mask h k).more - (sK t.mask h k).more>0 by rw[Nat.sub_self];exact Nat.lt_irrefl 0)]
 rfl
theorem Ac{t:SetTable}{h:Int}:∀k,∃n,n≤10*k∧CS t n (t.probeStart h)=sK t.mask h k
 |0=>⟨0,Nat.zero_le _,rfl⟩
 |k+1=>by
  obtain⟨n,hn,e⟩:=Ac (t:=t) (h:=h) k
  have:=Hi t.mask (iK t.mask (bits h) k).1
  refine⟨n+((sK t.mask h k).more+1),?_,by rw[rq,e,Ab]⟩
  show n+(runEnd t.mask (iK t.mask (bits h) k).1 - (iK t.mask (bits h) k).1+1)≤_
  omega
theorem xK{t:SetTable}{hashAt:Nat→Int}{h:Int}(hd:∀j,t.slot j≠ .dummy)(hh:∀j i,t.slot j= .live i→(hashAt i==h)=false):
 ∀(n fuel:Nat) (p:Probe),n<fuel→p.dummy=none→t.slot (CS t n p).j= .empty→∃j,probe.go t hashAt h fuel p=some (.empty j none)∧t.slot j= .empty
 |n,0,p,hn,_,_=>absurd hn (by omega)
 |n,fuel+1,p,hn,hp,he=>by
  unfold probe.go
  cases hs:t.slot p.j with
  |empty=>exact⟨p.j,by rw[hp],hs⟩
  |dummy=>exact absurd hs (hd _)
  |live i=>
   dsimp only
   rw[hh p.j i hs]
   cases n with
   |zero=>rw[show (CS t 0 p).j=p.j from rfl,hs] at he;cases he
   |succ n=>
    have:=xK hd hh n fuel (t.advance p) (by omega) (by rw[yA];exact hp) he
    simpa using this
theorem rf{t:SetTable}{j i:Nat}(h:t.slot j= .live i):t.place[i]? =some j:=by
 unfold slot at h
 dsimp only at h
 split at h
 ·rename_i e
  cases h
  exact eq_of_beq e
 ·split at h<;>cases h
theorem kh{t:SetTable}(hd:t.dummies= #[])(j:Nat):t.slot j≠ .dummy:=by
 unfold slot
 dsimp only
 split
 ·exact fun z=>by cases z
 ·split
  ·rename_i e
   rw[hd] at e
   unfold has at e
   simp at e
  ·exact fun z=>by cases z
theorem w9{t:SetTable}(hd:t.dummies= #[])(hp:t.place.size≤t.mask):∃j,j<t.mask+1∧t.slot j= .empty:=by
 apply Classical.byContradiction
 intro nB
 have:∀j∈List.range (t.mask+1),j∈t.place.toList:=fun j hj=>by
  cases hs:t.slot j with
  |empty=>exact absurd ⟨j,List.mem_range.mp hj,hs⟩ nB
  |dummy=>exact absurd hs (kh hd j)
  |live i=>exact List.mem_of_getElem? ((Array.getElem?_toList ..).trans (rf hs))
 have:=qH List.nodup_range this
 rw[List.length_range,Array.length_toList] at this
 omega
theorem wQ{t:SetTable}{hashAt:Nat→Int}{h:Int}(hm:CQ t.mask)(hd:t.dummies= #[])(hp:t.place.size≤t.mask)(hh:∀i,i<t.place.size→(hashAt i==h)=false):
 ∃j,t.probe hashAt h (t.probeStart h)=some (.empty j none)∧t.slot j= .empty:=by
 obtain⟨j,hj,he⟩:=w9 hd hp
 obtain⟨k,hk,e⟩:=reach hm (xB h) hj
 obtain⟨n,hn,ea⟩:=Ac (t:=t) (h:=h) k
 refine xK (kh hd) (fun j i hs=>hh i ?_) n _ _ (by unfold turns;omega) rfl (by rw[ea];show t.slot (iK t.mask (bits h) k).1=_;rw[e];exact he)
 obtain⟨hi,_⟩:=Array.getElem?_eq_some_iff.mp (rf hs)
 exact hi
def vals(o:Array (Option Nat))(n:Nat):List Nat:=(List.range n).filterMap fun j=>o.getD j none
theorem AG{α β:Type}[DecidableEq α]{f g:α→Option β}{a:α}{b:β}(h0:f a=none)(h1:g a=some b):∀{l:List α},l.Nodup→a∈l→(∀x∈l,x≠a→g x=f x)→(l.filterMap g).Perm (b::l.filterMap f)
 |[],_,h,_=>by cases h
 |x::l,hn,h,hg=>by
  have F9:=List.nodup_cons.mp hn
  by_cases e:x=a
  ·subst e
   rw[List.filterMap_cons_some h1,List.filterMap_cons_none h0]
   have:l.filterMap g=l.filterMap f:=jD fun y hy=>hg y (List.mem_cons_of_mem _ hy) fun z=>F9.1 (z▸hy)
   rw[this]
  ·have ih:=AG h0 h1 F9.2 ((List.mem_cons.mp h).resolve_left fun z=>e z.symm) fun y hy=>hg y (List.mem_cons_of_mem _ hy)
   have hx:=hg x (List.mem_cons_self ..) e
   cases hf:f x with
   |none=>rw[List.filterMap_cons_none (hx.trans hf),List.filterMap_cons_none hf];exact ih
   |some y=>rw[List.filterMap_cons_some (hx.trans hf),List.filterMap_cons_some hf];exact(ih.cons y).trans (List.Perm.swap ..)
theorem qh{m:Nat}{o:Array (Option Nat)}{b:Nat}:∀(n fuel k:Nat),n<fuel→(o.getD (iK m b (k+n)).1 (some 0)).isNone=true→∃j,layClean.free m o fuel (iK m b k).1 (iK m b k).2=some j∧(o.getD j (some 0)).isNone=true
 |n,0,k,h,_=>absurd h (by omega)
 |n,fuel+1,k,h,he=>by
  unfold layClean.free
  cases hf:(List.range (runEnd m (iK m b k).1+1 - (iK m b k).1)).find? fun q=>(o.getD ((iK m b k).1+q) (some 0)).isNone with
  |some q=>exact⟨_,rfl,List.find?_some (p:=fun q=>(o.getD ((iK m b k).1+q) (some 0)).isNone) hf⟩
  |none=>
   cases n with
   |zero=>
    have:=List.find?_eq_none.mp hf 0 (List.mem_range.mpr (by unfold runEnd;split<;>omega))
    rw[Nat.add_zero] at this he
    exact absurd he this
   |succ n=>
    exact qh n fuel (k+1) (by omega) (by rw[Nat.add_right_comm];exact he)
theorem wa{o:Array (Option Nat)}{j:Nat}(h:(o.getD j (some 0)).isNone=true):j<o.size∧o[j]? =some none:=by
 rw[Array.getD_eq_getD_getElem?] at h
 cases e:o[j]? with
 |none=>rw[e] at h;cases h
 |some v=>
  rw[e] at h
  cases v with
  |none=>exact⟨(Array.getElem?_eq_some_iff.mp e).1,rfl⟩
  |some v=>cases h
theorem Bd{m:Nat}(hm:CQ m){o:Array (Option Nat)}{h:Int}{k:Nat}(hs:o.size=m+1)(hp:(vals o (m+1)).Perm (List.range k))(hk:k≤m):
 ∃j,layClean.free m o (turns m) (bits h % (m+1)) (bits h)=some j∧(o.setIfInBounds j (some k)).size=m+1∧(vals (o.setIfInBounds j (some k)) (m+1)).Perm (List.range (k+1)):=by
 obtain⟨j0,Ou,J_⟩:∃j,j<m+1∧o.getD j none=none:=by
  apply Classical.byContradiction
  intro nB
  have all:∀l:List Nat,(∀j∈l,j<m+1)→(l.filterMap fun j=>o.getD j none).length=l.length:=by
   intro l
   induction l with
   |nil=>exact fun _=>rfl
   |cons a l ih=>
    intro h
    cases e:o.getD a none with
    |none=>exact absurd ⟨a,h a (List.mem_cons_self ..),e⟩ nB
    |some v=>rw[List.filterMap_cons_some (f:=fun j=>o.getD j none) e,List.length_cons,List.length_cons,ih fun j hj=>h j (List.mem_cons_of_mem _ hj)]
  have h1:=hp.length_eq
  rw[vals,all _ fun j hj=>List.mem_range.mp hj,List.length_range,List.length_range] at h1
  omega
 have Ob:(o.getD j0 (some 0)).isNone=true:=by
  rw[Array.getD_eq_getD_getElem?] at J_⊢
  rw[Array.getElem?_eq_getElem (by omega)] at J_⊢
  rw[Option.getD_some] at J_⊢
  rw[J_]
  rfl
 obtain⟨q,hq,e⟩:=reach hm (xB h) Ou
 obtain⟨j,ej,hj⟩:=qh (m:=m) (o:=o) (b:=bits h) q (turns m) 0 (by unfold turns;omega) (by rw[Nat.zero_add,e];exact Ob)
 obtain⟨dP,rW⟩:=wa hj
 refine⟨j,ej,by rw[Array.size_setIfInBounds];exact hs,?_⟩
 have hP:=AG (f:=fun i=>o.getD i none) (g:=fun i=>(o.setIfInBounds j (some k)).getD i none) (a:=j) (b:=k) (by
  show o.getD j none=none
  rw[Array.getD_eq_getD_getElem?,rW]
  rfl) (by
  show (o.setIfInBounds j (some k)).getD j none=some k
  rw[Array.getD_eq_getD_getElem?,Array.getElem?_setIfInBounds_self_of_lt dP]
  rfl) (l:=List.range (m+1)) List.nodup_range (List.mem_range.mpr (by omega)) fun x _ hx=>by
  show (o.setIfInBounds j (some k)).getD x none=o.getD x none
  rw[Array.getD_eq_getD_getElem?,Array.getD_eq_getD_getElem?,Array.getElem?_setIfInBounds_ne (fun z=>hx z.symm)]
 refine hP.trans ((hp.cons k).trans ?_)
 rw[List.range_succ (n:=k)]
 exact List.perm_append_comm (l₁:=[k])
theorem x_{m:Nat}(hm:CQ m):∀(hs:List Int) (o:Array (Option Nat)) (k:Nat),o.size=m+1→(vals o (m+1)).Perm (List.range k)→k+hs.length≤m→
 ∃o',(hs.foldl (init:=some (o,k)) fun acc h=>do
  let (owner,k)←acc
  let j←layClean.free m owner (turns m) (bits h % (m+1)) (bits h)
  pure (owner.setIfInBounds j (some k),k+1))=some (o',k+hs.length)∧(vals o' (m+1)).Perm (List.range (k+hs.length))
 |[],o,k,h1,h2,h3=>⟨o,rfl,h2⟩
 |h::hs,o,k,h1,h2,h3=>by
  rw[List.length_cons] at h3
  obtain⟨j,ej,e1,e2⟩:=Bd hm (h:=h) h1 h2 (by omega)
  obtain⟨o',e3,e4⟩:=x_ hm hs _ (k+1) e1 e2 (by omega)
  rw[List.length_cons,show k+(hs.length+1)=k+1+hs.length by omega]
  refine⟨o',?_,e4⟩
  rw[List.foldl_cons,←e3]
  congr 1
  show (layClean.free m o (turns m) (bits h % (m+1)) (bits h)>>=_)=_
  rw[ej]
  rfl
theorem xh(m:Nat):vals (Array.replicate (m+1) none) (m+1)=[]:=by
 unfold vals
 refine List.filterMap_eq_nil_iff.mpr fun j hj=>?_
 rw[Array.getD_eq_getD_getElem?,Array.getElem?_replicate]
 split<;>rfl
theorem DM{m f mv:Nat}{led pl:Bool}(hm:CQ m){hs:Array Int}(hl:hs.size≤m):
 ∃t order,laid m f mv led pl hs=some (t,order)∧t.mask=m∧t.dummies= #[]∧t.place.size=hs.size∧order.toList.Perm (List.range hs.size)∧t.plain=pl∧t.led=led∧t.place.toList.Pairwise (· < ·):=by
 obtain⟨o,e1,e2⟩:=x_ hm hs.toList (Array.replicate (m+1) none) 0 (by simp) (by rw[xh];exact .refl _) (by rw[Nat.zero_add,Array.length_toList];exact hl)
 rw[Nat.zero_add,Array.length_toList] at e1 e2
 have e3:layClean m hs=some o:=by
  unfold layClean
  rw[←Array.foldl_toList,e1]
  rfl
 have e4:((List.range (m+1)).filterMap fun j=>(o.getD j none).map (j,·)).map (·.2)=vals o (m+1):=by
  unfold vals
  rw[List.map_filterMap]
  refine jD fun j _=>?_
  cases o.getD j none<;>rfl
 refine⟨_,_,by unfold laid;rw[e3];rfl,rfl,rfl,?_,?_,rfl,rfl,?_⟩
 ·show ((((List.range (m+1)).filterMap fun j=>(o.getD j none).map (j,·)).map (·.1)).toArray).size=_
  rw[List.size_toArray,List.length_map,←List.length_map (f:=(·.2)),e4,e2.length_eq,List.length_range]
 ·show ((((List.range (m+1)).filterMap fun j=>(o.getD j none).map (j,·)).map (·.2)).toArray).toList.Perm _
  rw[e4]
  exact e2
 ·show ((((List.range (m+1)).filterMap fun j=>(o.getD j none).map (j,·)).map (·.1)).toArray).toList.Pairwise (· < ·)
  have:∀l:List Nat,((l.filterMap fun j=>(o.getD j none).map (j,·)).map (·.1)).Sublist l:=by
   intro l
   induction l with
   |nil=>exact .slnil
   |cons a l ih=>
    cases e:o.getD a none with
    |none=>rw[List.filterMap_cons_none (f:=fun j=>(o.getD j none).map (j,·)) (by show (o.getD a none).map (a,·)=none;rw[e];rfl)];exact ih.cons a
    |some v=>rw[List.filterMap_cons_some (f:=fun j=>(o.getD j none).map (j,·)) (b:=(a,v)) (by show (o.getD a none).map (a,·)=some (a,v);rw[e];rfl)];exact ih.cons₂ a
  exact List.Pairwise.sublist (this _) List.pairwise_lt_range
theorem m6{xs:Array Nat}(hs:xs.toList.Pairwise (· < ·)){j:Nat}:∀(fuel lo hi:Nat),lo≤hi→hi≤xs.size→hi - lo≤fuel→(∀i (h:i<xs.size),i<lo→xs[i]<j)→(∀i (h:i<xs.size),hi≤i→j≤xs[i])→
 below.go xs j fuel lo hi≤xs.size∧(∀i (h:i<xs.size),i<below.go xs j fuel lo hi→xs[i]<j)∧∀i (h:i<xs.size),below.go xs j fuel lo hi≤i→j≤xs[i]
 |0,lo,hi,h1,h2,h3,h4,h5=>by
  have:lo=hi:=by omega
  subst this
  exact⟨h2,h4,h5⟩
 |fuel+1,lo,hi,h1,h2,h3,h4,h5=>by
  have mono:∀i k (hk:k<xs.size) (h:i<k),xs[i]'(by omega)<xs[k]:=fun i k hk h=>by
   have:=List.pairwise_iff_getElem.mp hs i k (by simpa using (by omega:i<xs.size)) (by simpa using hk) h
   simpa using this
  unfold below.go
  by_cases dP:lo<hi
  ·rw[if_pos dP]
   dsimp only
   have hm:(lo+hi) / 2<xs.size:=by omega
   have hg:xs.getD ((lo+hi) / 2) j=xs[(lo+hi) / 2]:=by rw[Array.getD_eq_getD_getElem?,Array.getElem?_eq_getElem hm];rfl
   rw[hg]
   by_cases hc:xs[(lo+hi) / 2]<j
   ·rw[if_pos hc]
    refine m6 hs fuel _ hi (by omega) h2 (by omega) (fun i h tL=>?_) h5
    by_cases e:i=(lo+hi) / 2
    ·subst e;exact hc
    ·exact Nat.lt_trans (mono i _ hm (by omega)) hc
   ·rw[if_neg hc]
    refine m6 hs fuel lo _ (by omega) (by omega) (by omega) h4 fun i h tL=>?_
    by_cases e:i=(lo+hi) / 2
    ·subst e;omega
    ·have:=mono _ i h (by omega:(lo+hi) / 2<i)
     omega
  ·rw[if_neg dP]
   have:lo=hi:=by omega
   subst this
   exact⟨h2,h4,h5⟩
theorem m7{xs:Array Nat}(hs:xs.toList.Pairwise (· < ·))(j:Nat):below xs j≤xs.size∧(∀i (h:i<xs.size),i<below xs j→xs[i]<j)∧∀i (h:i<xs.size),below xs j≤i→j≤xs[i]:=
 m6 hs xs.size 0 xs.size (Nat.zero_le _) (Nat.le_refl _) (by omega) (fun i h hi=>absurd hi (by omega)) fun i h hi=>absurd h (by omega)
theorem Cd{t:SetTable}{j:Nat}(hs:t.place.toList.Pairwise (· < ·))(h:t.slot j= .empty):(insertAt t.place (below t.place j) j).toList.Pairwise (· < ·):=by
 obtain⟨h1,h2,h3⟩:=m7 hs j
 have fL:t.place[below t.place j]? ≠some j:=fun z=>by
  unfold slot at h
  dsimp only at h
  rw[z,beq_self_eq_true] at h
  cases h
 rw[toList_insertAt]
 have rY:=hs
 rw[←List.take_append_drop (below t.place j) t.place.toList,List.pairwise_append] at rY
 obtain⟨q1,q2,q3⟩:=rY
 have lo:∀a∈t.place.toList.take (below t.place j),a<j:=fun a ha=>by
  obtain⟨i,hi,e⟩:=List.mem_take_iff_getElem.mp ha
  have tL:i<t.place.size:=by simp at hi;omega
  have:=h2 i tL (by omega)
  rw[←e]
  simpa using this
 have hi:∀a∈t.place.toList.drop (below t.place j),j<a:=fun a ha=>by
  obtain⟨i,hi,e⟩:=List.mem_drop_iff_getElem.mp ha
  have tL:below t.place j+i<t.place.size:=by
   have:i+below t.place j<t.place.size:=by simpa using hi
   omega
  have:=h3 _ tL (by omega)
  have e':t.place[below t.place j+i]=a:=by simpa using e
  rw[e'] at this
  refine Nat.lt_of_le_of_ne this fun z=>?_
  subst z
  by_cases i0:i=0
  ·subst i0
   refine fL ?_
   rw[Array.getElem?_eq_getElem (by simpa using tL)]
   exact congrArg some (by simpa using e')
  ·have h0:below t.place j<t.place.size:=by omega
   have m1:=h3 _ h0 (Nat.le_refl _)
   have m2:=List.pairwise_iff_getElem.mp hs (below t.place j) (below t.place j+i) (by simpa using h0) (by simpa using tL) (by omega)
   have m2:t.place[below t.place j]<t.place[below t.place j+i]:=by simpa using m2
   omega
 refine List.pairwise_append.mpr ⟨q1,List.pairwise_cons.mpr ⟨hi,q2⟩,fun a ha b hb=>?_⟩
 rcases List.mem_cons.mp hb with rfl | hb
 ·exact lo a ha
 ·exact q3 a ha b hb
def slotAt(xs:Array Nat):Nat→Nat
 |0=>0
 |k+1=>xs.getD k 0+1
theorem below_at{xs:Array Nat}(hs:xs.toList.Pairwise (· < ·)):∀{k:Nat},k≤xs.size→below xs (slotAt xs k)=k
 |0,_=>by
  obtain⟨h1,h2,_⟩:=m7 hs 0
  show below xs 0=0
  cases e:below xs 0 with
  |zero=>rfl
  |succ p=>
   rw[e] at h1 h2
   exact absurd (h2 0 (by omega) (by omega)) (by omega)
 |k+1,hk=>by
  have hg:xs.getD k 0=xs[k]:=by rw[Array.getD_eq_getD_getElem?,Array.getElem?_eq_getElem (by omega)];rfl
  show below xs (xs.getD k 0+1)=k+1
  rw[hg]
  obtain⟨h1,h2,h3⟩:=m7 hs (xs[k]+1)
  have a1:¬below xs (xs[k]+1)≤k:=fun z=>by have:=h3 k (by omega) z;omega
  have a2:¬k+1<below xs (xs[k]+1):=fun z=>by
   have dP:k+1<xs.size:=by omega
   have m1:=h2 (k+1) dP z
   have m2:=List.pairwise_iff_getElem.mp hs k (k+1) (by simpa using (by omega:k<xs.size)) (by simpa using dP) (by omega)
   have m2:xs[k]<xs[k+1]:=by simpa using m2
   omega
  omega
structure TabOk (t:SetTable) (n:Nat) (ld:Bool):Prop where
 Qg:CQ t.mask
 size:t.place.size=n
 dum:t.dummies= #[]
 room:5*n<3*t.mask
 plain:t.plain=true
 led:t.led=ld
 rise:t.place.toList.Pairwise (· < ·)
theorem TabOk.fits{t:SetTable}{n:Nat}{ld:Bool}(h:TabOk t n ld):t.fits n=true:=by
 unfold SetTable.fits fill
 rw[h.dum,h.size]
 have:=h.room
 simp
 omega
def SetH(ld:Bool)(h:Heap)(a:Addr)(xs:List (Int×Value)):Prop:=∃o es ep t,h.get? a=some o∧o.ExactSet∧o.data= .set es ep t∧es.toList.Perm xs∧TabOk t es.size ld
theorem i4{α:Type}(xs:Array α)(p:Nat)(x:α):(insertAt xs p x).size=xs.size+1:=by
 have:=(insertAt_perm xs p x).length_eq
 simpa using this
section
variable{prog:Program}{w:World}{A:Around}{E:Value→Shared→Prop}{s:Shared}
theorem jG{ks:List Int}{b:Addr}{Q:Bool→Shared→Prop}(hk:IsTupleKey (intKind prog w) s.heap ks b)(h:Q true s):wpAny (model prog w) A (hashByValue 8 (.ref b)) Q E s:=by
 have hT:=hk.typeIs
 obtain⟨o,items,n,ho,_,hd,hi⟩:=hk
 unfold hashByValue
 refine wpAny_bind (wpAny_specialOf hT F.slot_tuple_hash.lookup ?_)
 dsimp only
 refine wpAny_bind (wpAny_seqItems ho hd ?_)
 refine wpAny_bind ?_
 show wpAny _ _ (forIn items _ _) _ _ s
 rw[←Array.forIn_toList]
 refine wpAny_forIn_list _ (fun rest r s'=>r.1=none∧s'=s∧∃ks',ItemsAre (intKind prog w) ks' rest) _ ?_ ?_ _ _ ⟨rfl,rfl,ks,hi⟩
 ·rintro v rest r s' ⟨hr,rfl,ks',hl⟩
  cases hl with
  | @cons k v Pc vs h1 h2=>
    have hv:hashByValue 7 v=pure true:=by
     cases v<;>first | rfl | (exact absurd h1 (by simp[intKind,Value.isInt]))
    rw[hv]
    refine wpAny_bind (wpAny_pure ?_)
    simp only[Bool.not_true,Bool.false_eq_true,if_false]
    exact wpAny_pure ⟨rfl,rfl,_,h2⟩
 ·rintro⟨r1,r2⟩ s' ⟨hr,rfl,_⟩
  simp only at hr
  subst hr
  exact wpAny_pure h
theorem pO{a b:Addr}{hk:Int}{o:Obj}{es:Array (Int×Value)}{ep:Nat}{t:SetTable}{Q:SetFound→Shared→Prop}(ho:s.heap.get? a=some o)(hd:o.data= .set es ep t){ld:Bool}(ht:TabOk t es.size ld)(F_:∀e∈es.toList,e.1≠hk)
 (h:∀j,t.slot j= .empty→Q (.free j false) s):wpAny (model prog w) A (setSearch a (.ref b) hk true) Q E s:=by
 have hf:=ht.fits
 obtain⟨hm,mD,K7,h5,_,_,_⟩:=ht
 have Oj:t.gaveWay=false:=by
  unfold SetTable.gaveWay
  rcases hm with e | e | e<;>rw[e]<;>rfl
 obtain⟨j,ej,hj⟩:=wQ (t:=t) (hashAt:=fun i=>(es[i]?.map (·.1)).getD 0) (h:=hk) hm K7 (by omega) fun i hi=>by
  rw[Array.getElem?_eq_getElem (by omega)]
  refine beq_eq_false_iff_ne.mpr fun z=>F_ (es[i]'(by omega)) (by rw[←Array.getElem_toList];exact List.getElem_mem _) z
 unfold setSearch setSearchFrom
 refine wpAny_bind (wpAny_setState_of ho hd hf ?_)
 dsimp only
 rw[Oj]
 simp only[Bool.false_eq_true,↓reduceIte]
 refine wpAny_bind (wpAny_pure ?_)
 split
 ·rename_i met heq
  have e:met= .empty j none:=Option.some.inj (heq.symm.trans ej)
  subst e
  exact wpAny_pure (h j hj)
 ·rename_i nB
  exact absurd ej (nB _)
theorem vi{a:Addr}{o:Obj}{es:Array (Int×Value)}{ep n:Nat}{t:SetTable}{Q:Unit→Shared→Prop}(ho:s.heap.get? a=some o)(hex:o.ExactSet)(hd:o.data= .set es ep t)(hf:t.fits es.size=true)(Lw:t.plain=true)(hm:CQ (sizeAbove n - 1))(h5:5*es.size<3*(sizeAbove n - 1))
 (h:∀h',Heap.SameBut a s.heap h'→SetH t.led h' a es.toList→Q () {s with heap:=h'}):wpAny (model prog w) A (setRelay a n) Q E s:=by
 obtain⟨t',order,e1,e2,e3,e4,e5,e6,e7,e8⟩:=DM (m:=sizeAbove n - 1) (f:=t.finger) (mv:=t.movedTo (sizeAbove n - 1)) (led:=t.led) (pl:=t.plain) hm (hs:=es.map (·.1)) (by rw[Array.size_map];omega)
 rw[Array.size_map] at e4 e5
 have xR:(order.filterMap (es[·]?)).toList.Perm es.toList:=by
  rw[Array.toList_filterMap]
  have:=e5.filterMap (fun i=>es[i]?)
  rwa [filterMap_getElem?_range] at this
 have hsz:(order.filterMap (es[·]?)).size=es.size:=by rw[←Array.length_toList,xR.length_eq,Array.length_toList]
 have N9:sizeAbove n≤128:=by rcases hm with e | e | e<;>omega
 unfold setRelay
 refine wpAny_bind (wpAny_setState_of ho hd hf ?_)
 dsimp only
 rw[if_neg (by rw[sizeLine_eq];omega)]
 have hr:t.relaid (es.map (·.1)) n=some (t',order):=e1
 rw[hr]
 refine wpAny_bind (wpAny_of_eq (a:=(order.filterMap (es[·]?),t')) ?_ ?_)
 ·show (if ((order.filterMap (es[·]?)).size !=es.size)=true then(do (unsupported "internal:set-table-lost-an-element":Sem PUnit);pure (order.filterMap (es[·]?),t')) else pure (order.filterMap (es[·]?),t'))=_
  rw[hsz,bne_self_eq_false]
  rfl
 ·dsimp only
  refine wpAny_storeSet_of ho hd (h _ (Heap.SameBut.update ..) ?_) (by rw[hsz,sizeLine_eq];rcases hm with e | e | e<;>omega)
  have hg:(s.heap.update a (Obj.putSet (order.filterMap (es[·]?)) t')).get? a=some {o with data:= .set (order.filterMap (es[·]?)) (ep+1) t'}:=by
   have:=Heap.get?_update_self (Obj.putSet (order.filterMap (es[·]?)) t') ho (by rw[putSet_of _ t' hd];rfl)
   rw[putSet_of _ t' hd] at this;exact this
  exact⟨_,_,ep+1,t',hg,hex,rfl,xR,by rw[e2];exact hm,by rw[hsz];exact e4,e3,by rw[hsz,e2];exact h5,e6.trans Lw,e7,e8⟩
theorem C5:sizeAbove (grown 5)=32:=by decide
theorem z7:sizeAbove (grown 19)=128:=by decide
theorem kg{a b:Addr}{ks:List Int}{hk:Int}{ld:Bool}{xs:List (Int×Value)}{Q:Bool→Shared→Prop}(y0:IsTupleKey (intKind prog w) s.heap ks b)(hS:SetH ld s.heap a xs)(F_:hk∉xs.map (·.1))(hl:xs.length<64)
 (h:∀h',Heap.SameBut a s.heap h'→SetH ld h' a (xs++[(hk, .ref b)])→Q true {s with heap:=h'}):wpAny (model prog w) A (setAddHashed a (.ref b) hk) Q E s:=by
 obtain⟨o,es,ep,t,ho,hex,hd,hp,ht⟩:=hS
 have hf:=ht.fits
 have hsz:es.size=xs.length:=by rw[←Array.length_toList,hp.length_eq]
 unfold setAddHashed setAddHashedIn
 refine wpAny_holding (wpAny_bind (wpAny_setState_of ho hd hf ?_))
 dsimp only
 have K2:byScan (.ref b) es=false:=rfl
 rw[K2]
 simp only[Bool.false_eq_true,↓reduceIte]
 refine wpAny_bind (pO ho hd ht (fun e he z=>F_ (List.mem_map.mpr ⟨e,hp.mem_iff.mp he,z⟩)) fun j FW=>?_)
 obtain⟨hm,mD,K7,h5,Lw,FZ,OS⟩:=ht
 dsimp only
 refine wpAny_bind (wpAny_setState_of ho hd hf ?_)
 dsimp only
 have A2:(t.put j).1.mask=t.mask∧(t.put j).1.place.size=es.size+1∧(t.put j).1.dummies= #[]∧(t.put j).1.plain=true∧(t.put j).1.led=ld∧(t.put j).1.place.toList.Pairwise (· < ·):=by
  refine⟨rfl,?_,?_,Lw,FZ,Cd OS FW⟩
  ·show (insertAt t.place (below t.place j) j).size=_
   rw[i4,mD]
  ·show (if has t.dummies j then eraseAt t.dummies (below t.dummies j) else t.dummies)= #[]
   rw[K7]
   rfl
 have fin:wpAny (model prog w) A (do
  storeSet a (insertAt es (t.put j).2 (hk, .ref b)) (t.put j).1
  if (!false&&(t.put j).1.tooFull)=true then do
      setRelay a (grown (es.size+1))
      pure true
   else pure true) Q E s:=by
  obtain⟨q1,q2,q3,q4,q5,q6⟩:=A2
  generalize (t.put j).1=t1 at q1 q2 q3 q4 q5 q6
  have IZ:=i4 es (t.put j).2 (hk,Value.ref b)
  have Lv:(insertAt es (t.put j).2 (hk,Value.ref b)).toList.Perm (xs++[(hk, .ref b)]):=by
   refine(insertAt_perm es _ _).trans ?_
   rw[Array.toList_push]
   exact hp.append_right _
  generalize insertAt es (t.put j).2 (hk,Value.ref b)=EU at IZ Lv
  have hg:(s.heap.update a (Obj.putSet EU t1)).get? a=some {o with data:= .set EU (ep+1) t1}:=by
   have:=Heap.get?_update_self (Obj.putSet EU t1) ho (by rw[putSet_of _ t1 hd];rfl)
   rw[putSet_of _ t1 hd] at this;exact this
  have C3:=Heap.SameBut.update s.heap a (Obj.putSet EU t1)
  have P7:t.mask≤127:=by rcases hm with e | e | e<;>omega
  refine wpAny_bind (wpAny_storeSet_of ho hd ?_ (by rw[sizeLine_eq];omega))
  have AV:t1.fill=es.size+1:=by unfold fill;rw[q2,q3];rfl
  by_cases gB:t1.tooFull=true
  ·rw[gB]
   simp only[Bool.not_false,Bool.and_self,↓reduceIte]
   unfold tooFull at gB
   rw[AV,q1] at gB
   have gB:t.mask*3≤(es.size+1)*5:=of_decide_eq_true gB
   have Oe:t1.fits EU.size=true:=by
    unfold SetTable.fits
    rw[AV,q2,q1,IZ]
    simp
    omega
   have hr:CQ (sizeAbove (grown (es.size+1)) - 1)∧5*EU.size<3*(sizeAbove (grown (es.size+1)) - 1):=by
    rw[IZ]
    rcases hm with e | e | e
    ·have:es.size=4:=by omega
     rw[this,C5]
     exact⟨.inr (.inl rfl),by decide⟩
    ·have:es.size=18:=by omega
     rw[this,z7]
     exact⟨.inr (.inr rfl),by decide⟩
    ·omega
   refine wpAny_bind (vi (o:={o with data:= .set EU (ep+1) t1}) hg hex rfl Oe q4 hr.1 hr.2 fun h' rY FO=>wpAny_pure (h h' (C3.trans rY) ?_))
   obtain⟨o2,NO,NL,t2,k1,k2,k3,k4,k5⟩:=FO
   exact⟨o2,NO,NL,t2,k1,k2,k3,k4.trans Lv,q5▸k5⟩
  ·have gB:t1.tooFull=false:=by simpa using gB
   rw[gB]
   simp only[Bool.not_false,Bool.and_false,Bool.false_eq_true,↓reduceIte]
   unfold tooFull at gB
   rw[AV,q1] at gB
   have gB:¬t.mask*3≤(es.size+1)*5:=of_decide_eq_false gB
   exact wpAny_pure (h _ C3 ⟨_,EU,ep+1,t1,hg,hex,rfl,Lv,by rw[q1];exact hm,by rw[q2,IZ],q3,by rw[IZ,q1];omega,q4,q5,q6⟩)
 split
 ·refine wpAny_bind (jG y0 ?_)
  exact fin
 ·refine wpAny_bind (wpAny_pure ?_)
  exact fin
end
theorem SetH.at{ld:Bool}{h h':Heap}{a:Addr}{xs:List (Int×Value)}(x:SetH ld h a xs)(e:∀o,h.get? a=some o→h'.get? a=some o):SetH ld h' a xs:=
 let ⟨o,es,ep,t,ho,r⟩:=x
 ⟨o,es,ep,t,e o ho,r⟩
theorem lz{prog:Program}{w:World}{h h':Heap}{ks:List Int}{b:Addr}(x:IsTupleKey (intKind prog w) h ks b)(e:∀o,h.get? b=some o→h'.get? b=some o):IsTupleKey (intKind prog w) h' ks b:=
 let ⟨o,items,n,ho,r⟩:=x
 ⟨o,items,n,e o ho,r⟩
section
variable{prog:Program}{w:World}{A:Around}{R:Result→Shared→Prop}{I:Addr}{fp wr:List Addr}{G:Array GenState→Array GenState→Prop}{n:Nat}{P:Nat→Value→Prop}{St:Nat→Shared→Prop}{ld:Bool}
def ze(prog:Program)(w:World)(ks:Nat→List Int)(ad:Nat→Addr)(i:Nat):List (Int×Value):=(List.range i).map fun j=>(tupleKeyHash (intKind prog w) (ks j), .ref (ad j))
theorem Cr(W:WalksS prog w A.in1 I fp wr G n P St)(S:Addr)(J8:S∉fp)(ks:Nat→List Int)(ad:Nat→Addr)(LG:∀i v,P i v→v= .ref (ad i))(fL:∀i,i<n→ad i≠S∧ad i∉wr)(hu:A.in1.units<cLine)(hn:n≤64)
 (C1:((List.range n).map fun i=>tupleKeyHash (intKind prog w) (ks i)).Nodup):∀(k i:Nat) (s:Shared),n - i=k→i≤n→St i s→(∀j,j<n→IsTupleKey (intKind prog w) s.heap (ks j) (ad j))→SetH ld s.heap S (ze prog w ks ad i)→
  (∀s',Moved (S::wr) G s s'→SetH ld s'.heap S (ze prog w ks ad n)→R (.ok (.ret .none)) s')→codeAny (model prog w) A (.builtin "set.update.loop" ⟨[.ref S, .ref I],[]⟩) R s:=by
 have MP:S∉wr:=fun h=>J8 (W.sub _ h)
 have Dz:∀b∈wr,b∈S::wr:=fun b hb=>List.mem_cons_of_mem _ hb
 intro k
 induction k with
 |zero=>
  intro i s hk hi v7 hT hS hR
  obtain rfl:i=n:=by omega
  refine codeAny_builtin PyProof.Rows.F.entry_set_update_loop ?_
  rw[Around.under_plainId PyProof.Rows.F.plain_set_update_loop _]
  show wpAny _ A.in1 (pyNext (.ref I)>>=_) _ _ s
  refine wpAny_bind (W.done s _ _ v7 fun s' hm=>?_)
  show wpAny _ A.in1 (ret Value.none) _ _ s'
  exact wpAny_pure (hR s' (hm.mono Dz) (hS.at fun o e=>hm.heap S o MP e))
 |succ k ih=>
  intro i s hk hi v7 hT hS hR
  have dP:i<n:=by omega
  refine codeAny_builtin PyProof.Rows.F.entry_set_update_loop ?_
  rw[Around.under_plainId PyProof.Rows.F.plain_set_update_loop _]
  show wpAny _ A.in1 (pyNext (.ref I)>>=_) _ _ s
  refine wpAny_bind (W.item i s _ _ dP v7 fun v s' hP LD hm=>?_)
  have ev:=LG i v hP
  subst ev
  have FO:SetH ld s'.heap S (ze prog w ks ad i):=hS.at fun o e=>hm.heap S o MP e
  have KW:∀j,j<n→IsTupleKey (intKind prog w) s'.heap (ks j) (ad j):=fun j hj=>lz (hT j hj) fun o e=>hm.heap _ o (fL j hj).2 e
  show wpAny _ A.in1 (holding [Value.ref (ad i)] (setAdd S (.ref (ad i)))>>=_) _ _ s'
  refine wpAny_bind (wpAny_holding ?_)
  unfold setAdd
  refine wpAny_holding (wpAny_bind (wpAny_pyHash_tuple hu (KW i dP) ?_))
  refine kg (s:={s' with toks:=s'.toks+((ks i).length+1)}) (KW i dP) FO (fun v3=>?_) (by unfold ze;rw[List.length_map,List.length_range];omega) fun h' C3 MO=>?_
  ·unfold ze at v3
   rw[List.map_map] at v3
   obtain⟨j,hj,e⟩:=List.mem_map.mp v3
   have hj:=List.mem_range.mp hj
   have h1:((List.range n).map fun i=>tupleKeyHash (intKind prog w) (ks i))[j]? =some (tupleKeyHash (intKind prog w) (ks j)):=by rw[List.getElem?_map,List.getElem?_range (by omega)];rfl
   have h2:((List.range n).map fun i=>tupleKeyHash (intKind prog w) (ks i))[i]? =some (tupleKeyHash (intKind prog w) (ks j)):=by rw[List.getElem?_map,List.getElem?_range dP];exact congrArg some (show _=_ from e).symm
   have:=(List.getElem?_inj (i:=j) (j:=i) (by simp;omega) C1).mp (h1.trans h2.symm)
   omega
  have N5:SetH ld h' S (ze prog w ks ad (i+1)):=by
   unfold ze at MO⊢
   rw[List.range_succ,List.map_append]
   exact MO
  have L5:∀b o,b≠S→s'.heap.get? b=some o→h'.get? b=some o:=fun b o hb e=>(C3.2 b hb).trans e
  refine wpAny_pure ⟨plainId_quiet PyProof.Rows.F.plain_set_update_loop _,ih (i+1) _ (by omega) dP (W.frame _ s' _ _ LD (Nat.le_add_right ..) fun b hb o e=>L5 b o (fun z=>J8 (z▸hb)) e) (fun j hj=>lz (KW j hj) fun o e=>L5 _ o (fL j hj).1 e) N5 fun JN Ll KR=>?_⟩
  exact hR JN (Moved.trans W.gtrans ((hm.mono Dz).then_heap (Nat.le_add_right ..) fun b o hb e=>L5 b o (fun z=>hb (z▸List.mem_cons_self ..)) e) Ll) KR
end
def jL(w:World):Bool:=!w.params.followText "set-order"
section
variable{prog:Program}{w:World}{A:Around}{E:Value→Shared→Prop}{s:Shared}
theorem vj(a:Value){Q₁:Value→Shared→Prop}(h:Q₁ (.ref s.heap.objs.size) {s with heap:=s.heap.push {cls:= .type "set",dict:=none,data:= .set #[] 0 (.fresh 0 0 (jL w))} }):
 codeAny (model prog w) A (.call (.builtin "set.__new__") ⟨[.type "set",a],[]⟩) (wants Q₁ E) s:=by
 refine codeAny_of_tree (show wpAny _ A.in1 (do checkBuiltinCall "set.__new__" ⟨[.type "set",a],[]⟩;again (.builtin "set.__new__" ⟨[.type "set",a],[]⟩)) _ _ s from ?_)
 refine wpAny_bind (wpAny_of_eq (F.newCall_set_1 a) (wpAny_pure ⟨plainId_quiet F.plain_set_new _,codeAny_builtin F.entry_set_new ?_⟩))
 rw[Around.under_plainId F.plain_set_new _]
 unfold Builtin.«set.__new__» Builtin.Frozenset.newClass
 have Dz:=sub_set_self
 obtain⟨hp,g,d,tk,os⟩:=s
 dsimp only
 wp_walk
 refine wpAny_askSetting (wpAny_pure ?_)
 simp only[newObj]
 exact wpAny_bind (wpAny_alloc (wpAny_pure (wpAny_pure h)))
end
section
variable{prog:Program}{w:World}{A:Around}{E:Value→Shared→Prop}{s:Shared}
set_option maxHeartbeats 3200000 in
theorem pz{l:Addr}{items:Array Value}{ks:Nat→List Int}{ad:Nat→Addr}{Q:Value→Shared→Prop}(hh:A.handled=none)(hu:A.units+8<cLine)(hl:s.heap.IsList l items)(hi:∀i,i<items.size→items[i]? =some (.ref (ad i)))
 (hT:∀j,j<items.size→IsTupleKey (intKind prog w) s.heap (ks j) (ad j))(hn:items.size≤64)(C1:((List.range items.size).map fun i=>tupleKeyHash (intKind prog w) (ks i)).Nodup)
 (h:∀(h':Heap) (tk:Nat),SetH (jL w) h' s.heap.objs.size (ze prog w ks ad items.size)→(∀b o,b<s.heap.objs.size→s.heap.get? b=some o→h'.get? b=some o)→Q (.ref s.heap.objs.size) {s with heap:=h',toks:=tk}):
 wpAny (model prog w) A (call (.type "set") [.ref l]) Q E s:=by
 obtain⟨c,tl,OF⟩:=F.called_set.mro
 have M6:=F.called_set.made
 have Dz:=F.called_set.sub
 refine wpAny_call (codeAny_of_tree ?_)
 show wpAny _ _ (callAny (.type "set") _) _ _ _
 refine wpAny_pure ⟨Code.quiet_builtin _ (by decide+kernel),codeAny_builtin F.entry_type_call ?_⟩
 rw[Around.under_plain (weight_type_call_type "set" [.ref l] []) rfl]
 have h1:=F.called_set.notType
 have h2:=F.called_set.canCreate
 have PX:=F.typeCall_set_1 (.ref l)
 repeat (any_goals (first | assumption | wp_step))
 refine codeAny_mono (vj (.ref l) (E:=E) (Q₁:=fun obj s₁=>∃led:Bool,led=jL w∧obj= .ref s.heap.objs.size∧s₁={s with heap:=s.heap.push {cls:= .type "set",dict:=none,data:= .set #[] 0 (.fresh 0 0 led)} }) ⟨_,rfl,rfl,rfl⟩) fun r s₁ hr=>?_
 cases r with
 |error e=>exact hr
 |ok fl=>
  cases fl with
  |ret obj=>
   obtain⟨led,FZ,rfl,rfl⟩:=hr
   have hS:(s.heap.push {cls:= .type "set",dict:=none,data:= .set #[] 0 (.fresh 0 0 led)}).get? s.heap.objs.size=some {cls:= .type "set",dict:=none,data:= .set #[] 0 (.fresh 0 0 led)}:=Heap.get?_push_size _ rfl
   have N6:Shared.TypeIs {s with heap:=s.heap.push {cls:= .type "set",dict:=none,data:= .set #[] 0 (.fresh 0 0 led)} } (.ref s.heap.objs.size) "set":=⟨_,hS,rfl⟩
   have M4:=F.called_set.init.lookup
   have MQ:=F.called_set.init.bind (.ref s.heap.objs.size)
   repeat (any_goals (first | assumption | wp_step))
   refine codeAny_mono (codeAny_call_builtin (R:=wants (fun r s₂=>r= .none∧∃h' tk,s₂={s with heap:=h',toks:=tk}∧SetH (jL w) h' s.heap.objs.size (ze prog w ks ad items.size)∧(∀b o,b<s.heap.objs.size→s.heap.get? b=some o→h'.get? b=some o)) E) F.called_set.init.plain F.entry_set_init (check_set_init_1 N6 ?_)) fun r₂ s₂ LC=>?_
   ·obtain⟨ol,M_,E2,nl,MU⟩:=hl
    obtain⟨Pk,Jn,Nt,GK⟩:=ol
    simp only at E2 MU
    subst E2;subst MU
    have Lu:(s.heap.push {cls:= .type "set",dict:=none,data:= .set #[] 0 (.fresh 0 0 led)}).get? l=some {cls:= .type "list",dict:=Jn,data:= .seq items nl,slots:=GK}:=Heap.get?_push_of_some _ M_
    have OV:=F.sub_list_set
    have OU:=F.sub_list_frozenset
    have fL:(Value.type "list"==Value.type "dict")=false:=by decide
    have xP:(s.heap.push {cls:= .type "set",dict:=none,data:= .set #[] 0 (.fresh 0 0 led)}).IsList l items:=⟨_,Lu,rfl,nl,rfl⟩
    unfold Builtin.«set.__init__» noKeywords Builtin.Frozenset.updateFrom
    generalize N1:pyIter=PI
    wp_walk
    subst N1
    refine wpAny_pyIter_list xP (wpAny_bind (wpAny_runValue ?_))
    have M0:l<s.heap.objs.size:=Heap.lt_size M_
    have Om:A.in1.in1.in1.handled=none:=by simp[hh]
    have Ln:l≠(s.heap.push {cls:= .type "set",dict:=none,data:= .set #[] 0 (.fresh 0 0 led)}).objs.size:=by
     rw[Heap.size_push];exact Nat.ne_of_lt (Nat.lt_succ_of_lt M0)
    have J8:s.heap.objs.size∉[(s.heap.push {cls:= .type "set",dict:=none,data:= .set #[] 0 (.fresh 0 0 led)}).objs.size,l]:=by
     rw[Heap.size_push];simp only[List.mem_cons,List.mem_singleton,List.not_mem_nil,or_false,not_or]
     exact⟨Nat.ne_of_lt (Nat.lt_succ_self _),Nat.ne_of_gt M0⟩
    have KY:∀i,i<items.size→ad i<s.heap.objs.size:=fun i tL=>let ⟨o,_,_,ho,_⟩:=hT i tL;Heap.lt_size ho
    refine Cr (ld:=jL w) ((Walks.list Om _ l Ln items).toS) s.heap.objs.size J8 ks ad (fun i v hv=>?_) (fun i tL=>?_) ?_ hn C1 (items.size - 0) 0 _ (by omega) (Nat.zero_le _) ⟨⟨_,Heap.get?_push_size _ rfl,rfl,rfl⟩,(xP.push _)⟩ (fun j hj=>lz (hT j hj) fun o e=>Heap.get?_push_of_some _ (Heap.get?_push_of_some _ e)) ?hS0 ?hR
    case hS0=>exact⟨_,#[],0,_,Heap.get?_push_of_some _ hS,⟨rfl,rfl,rfl⟩,rfl, .refl _, .inl rfl,rfl,rfl,by show 5*0<3*7;decide,rfl,FZ,List.Pairwise.nil⟩
    case hR=>
     intro s' hm FO
     obtain⟨h',g',d',HB,L4⟩:=s'
     obtain rfl:g'=s.gens:=hm.gens
     obtain rfl:d'=s.drawn:=hm.drawn
     obtain rfl:L4=s.os:=hm.os
     show wpAny _ _ _ _ _ _
     refine wpAny_pure ?_
     show wpAny _ _ (ret Value.none) _ _ _
     refine wpAny_pure ⟨rfl,h',HB,rfl,FO,fun b o hb e=>?_⟩
     have N7:b≠s.heap.objs.size:=Nat.ne_of_lt hb
     have IE:b≠(s.heap.push {cls:= .type "set",dict:=none,data:= .set #[] 0 (.fresh 0 0 led)}).objs.size:=by
      rw[Heap.size_push];exact Nat.ne_of_lt (Nat.lt_succ_of_lt hb)
     exact hm.heap b o (by simp only[List.mem_cons,List.mem_singleton,List.not_mem_nil,or_false,not_or];exact⟨N7,IE⟩) (Heap.get?_push_of_some _ (Heap.get?_push_of_some _ e))
    ·have dP:i<items.size:=(Array.getElem?_eq_some_iff.mp hv).1
     exact Option.some.inj ((show items[i]? =some v from hv).symm.trans (hi i dP))
    ·have:=KY i tL
     refine⟨Nat.ne_of_lt this,?_⟩
     rw[Heap.size_push]
     simp only[List.mem_cons,List.mem_singleton,List.not_mem_nil,or_false]
     exact Nat.ne_of_lt (Nat.lt_succ_of_lt this)
    ·show A.units+1+1+1<cLine
     omega
   ·cases r₂ with
    |error e=>exact LC
    |ok NS=>
     cases NS with
     |ret r=>
      obtain⟨rfl,h',tk,rfl,FO,pq⟩:=LC
      repeat (any_goals (first | assumption | wp_step))
      exact h _ _ FO pq
     |_=>exact LC.elim
  |_=>exact hr.elim
end
end L3
namespace L3
open PySem PySem.Spec L2 HT
open PyProof.Rows hiding St
theorem items_int{P:Program}{w:World}:∀{us:List Value}{ns:List Int},IntsAre us ns→ItemsAre (intKind P w) ns us
 |_,_, .nil=> .nil
 |_,_, .cons n t h=> .cons (intKind_is _ _ _ _) (items_int h)
def z9:V→Addr
 | .ref a=>a
 |_=>0
theorem u6{X:Cx}{pins:List (Addr×Obj)}{σ:St}{H:Hp}{s:Shared}(I:Inv X pins σ H s){vs:List V}{aF:List Value}{ks:List (List Int)}(hr:bP H vs ks)(rv:Vals vs aF){i:Nat}(hi:i<aF.toArray.size):
 aF.toArray[i]? =some (.ref (z9 (vs.getD i .non)))∧IsTupleKey (intKind X.prog X.w) s.heap (ks.getD i []) (z9 (vs.getD i .non)):=by
 have hl:=rv.length
 have tL:i<aF.length:=by simpa using hi
 obtain⟨a,e1,e2⟩:=j_ hr (i:=i) (by omega)
 have r:=lB i rv (by omega)
 rw[e1] at r⊢
 have r:aF.getD i Value.none= .ref a:=r
 refine⟨?_,?_⟩
 ·rw[List.getD_eq_getElem?_getD,List.getElem?_eq_getElem tL,Option.getD_some] at r
  rw[List.getElem?_toArray,List.getElem?_eq_getElem tL,r]
  rfl
 ·obtain⟨us,ru,pt,_⟩:=I.tuple (SqT.of (K:=X.K) e2)
  obtain⟨o,q1,q2,m,q3⟩:=pt
  exact⟨o,us.toArray,m,q1,q2,q3,by simpa using items_int (intsAre_of ru)⟩
section
variable{X:Cx}{Xw:Nat→Hp→Prop}{e:Expr}{δ:DE}{pos sI p p2:Pos}
theorem Cs{pins:List (Addr×Obj)}{σ:St}{H:Hp}{s:Shared}{Q:Value→Shared→Prop}{E:Value→Shared→Prop}(I:Inv X pins σ H s)(hc:X.calm=true)(hu:X.A.units+64<cLine){a:Addr}{ws:List V}{ks:List (List Int)}(hl:SqL X.K H a ws)(hr:bP H ws ks)(hn:ks.length≤64)(C1:(ks.map dF).Nodup)
 (h:∀h' tk,SetH (jL X.w) h' s.heap.objs.size (ze X.prog X.w (fun i=>ks.getD i []) (fun i=>z9 (ws.getD i .non)) ks.length)→(∀b o,s.heap.get? b=some o→h'.get? b=some o)→Q (.ref s.heap.objs.size) {s with heap:=h',toks:=tk}):
 wpAny (model X.prog X.w) X.A (call (.type "set") [.ref a]) Q E s:=by
 obtain⟨aF,rv,pl,hz⟩:=I.list hl
 have h1:=eN hr
 have h2:=rv.length
 have hsz:aF.toArray.size=ks.length:=by rw[List.size_toArray];omega
 refine pz (items:=aF.toArray) (ks:=fun i=>ks.getD i []) (ad:=fun i=>z9 (ws.getD i .non)) (I.ok.hd hc) (by omega) pl.isList (fun i hi=>(u6 I hr rv hi).1) (fun i hi=>(u6 I hr rv hi).2) (by omega) ?_ fun h' tk hS hk=>?_
 ·rw[hsz]
  have e:((List.range ks.length).map fun i=>tupleKeyHash (intKind X.prog X.w) (ks.getD i []))=ks.map dF:=by
   refine List.ext_getElem (by simp) fun i h1 h2=>?_
   have hi:i<ks.length:=by simpa using h1
   rw[List.getElem_map,List.getElem_map,List.getElem_range,List.getD_eq_getElem?_getD,List.getElem?_eq_getElem hi]
   rfl
  rw[e]
  exact C1
 ·rw[hsz] at hS
  exact h h' tk hS fun b o q=>hk b o (Heap.lt_size q) q
end
end L3
namespace L3
open PySem PySem.SetTable PySem.W PyProof.Rows
theorem cK:Slot "set_iterator" "__next__" "set_iterator.__next__":=
 .of (owner:="set_iterator") (n:="__next__") (by rw[typeLookup_type,builtinLookup_eq_fast];kernel_rfl) (by decide+kernel) (by decide+kernel) (by decide+kernel) (by first | exact .inl (by decide+kernel) | exact .inr (by decide+kernel)) (by rw[isSubtype_type];kernel_rfl)
theorem ki:Slot "set_iterator" "__iter__" "set_iterator.__iter__":=
 .of (owner:="set_iterator") (n:="__iter__") (by rw[typeLookup_type,builtinLookup_eq_fast];kernel_rfl) (by decide+kernel) (by decide+kernel) (by decide+kernel) (by first | exact .inl (by decide+kernel) | exact .inr (by decide+kernel)) (by rw[isSubtype_type];kernel_rfl)
theorem uU:Manifest.owners.lookup (String.ofList ['r', 'o', 't', 'a', 'r', 'e', 't', 'i', '_', 't', 'e', 's'].reverse)=some Manifest.sig_set_iterator:=by kernel_rfl
theorem jx(a:Value):argsOk "set_iterator.__next__" ⟨[a],[]⟩:=by
 unfold argsOk
 rw[signature?_of (id:="set_iterator.__next__") (n:=['_', '_', 't', 'x', 'e', 'n', '_', '_']) (o:=['r', 'o', 't', 'a', 'r', 'e', 't', 'i', '_', 't', 'e', 's']) (by kernel_rfl) uU]
 kernel_rfl
theorem rC(a:Value):argsOk "set_iterator.__iter__" ⟨[a],[]⟩:=by
 unfold argsOk
 rw[signature?_of (id:="set_iterator.__iter__") (n:=['_', '_', 'r', 'e', 't', 'i', '_', '_']) (o:=['r', 'o', 't', 'a', 'r', 'e', 't', 'i', '_', 't', 'e', 's']) (by kernel_rfl) uU]
 kernel_rfl
theorem iT:entryFor table "set_iterator.__next__"=some Builtin.«set_iterator.__next__» :=entryFor_of_tree (by kernel_rfl)
theorem nu:entryFor table "set.__iter__"=some Builtin.«frozenset.__iter__» :=entryFor_alias (id':="frozenset.__iter__") (by kernel_rfl) rfl (by decide+kernel) (by kernel_rfl)
theorem pC:entryFor table "set_iterator.__iter__"=some Builtin.«dict_keyiterator.__iter__» :=entryFor_alias (id':="dict_keyiterator.__iter__") (by kernel_rfl) rfl (by decide+kernel) (by kernel_rfl)
def IsSI(h:Heap)(it a:Addr)(sl k n ep:Nat):Prop:=∃o,h.get? it=some o∧o.cls= .type "set_iterator"∧o.data= .fields #[rawInt sl,rawInt k, .ref a,rawInt n,rawInt ep]
theorem IsSI.typeIs{s:Shared}{it a:Addr}{sl k n ep:Nat}(x:IsSI s.heap it a sl k n ep):s.TypeIs (.ref it) "set_iterator":=let ⟨o,ho,hc,_⟩:=x;⟨o,ho,hc⟩
theorem IsSI.at{h h':Heap}{it a:Addr}{sl k n ep:Nat}(x:IsSI h it a sl k n ep)(e:∀o,h.get? it=some o→h'.get? it=some o):IsSI h' it a sl k n ep:=let ⟨o,ho,r⟩:=x;⟨o,e o ho,r⟩
def jY(w:World)(a:Addr)(ep:Nat)(es:Array (Int×Value)):Array (Int×Value):=if w.params.followText "set-order" then pickOrder (w.params.setOrder a ep) es else es
def fZ(w:World)(t:SetTable)(k:Nat):Nat:=if w.params.followText "set-order" then 0 else slotAt t.place k
section
variable{prog:Program}{w:World}{A:Around}{E:Value→Shared→Prop}{s:Shared}{a:Addr}{o:Obj}{es:Array (Int×Value)}{ep:Nat}{t:SetTable}
theorem A8{Q:Value→Shared→Prop}(ho:s.heap.get? a=some o)(hex:o.ExactSet)(hd:o.data= .set es ep t)(ht:TabOk t es.size (jL w))
 (hQ:Q (.ref s.heap.objs.size) {s with heap:=s.heap.push {cls:= .type "set_iterator",data:= .fields #[rawInt 0,rawInt 0, .ref a,rawInt es.size,rawInt ep]} }):wpAny (model prog w) A (pyIter (.ref a)) Q E s:=by
 have hT:s.TypeIs (.ref a) "set":=⟨o,ho,hex.1⟩
 have hf:=ht.fits
 refine wpAny_pyIter_slot hT F.slot_set_iter (wpAny_call_entry F.slot_set_iter hT nu ?_ (F.args_set_iter_1 _))
 unfold Builtin.«frozenset.__iter__» Builtin.Frozenset.slot0 slotArgs
 simp only[List.isEmpty_nil,Bool.not_true,Bool.false_eq_true,↓reduceIte,bind_assoc,List.length_nil,bne_self_eq_false]
 unfold Builtin.Frozenset.addrOf Builtin.Frozenset.sizeOf
 refine wpAny_bind (wpAny_pure ?_)
 try dsimp only
 refine wpAny_bind (wpAny_pure ?_)
 refine wpAny_bind (wpAny_bind (wpAny_setEntries_of ho hd hf (wpAny_pure ?_)))
 unfold setDrawn setsByText
 refine wpAny_bind (wpAny_bind (wpAny_setState_of ho hd hf (wpAny_bind (wpAny_bind (wpAny_askSetting (wpAny_pure (wpAny_pure ?_)))))))
 refine wpAny_ite_split (fun yV=>?_) fun _=>?_
 ·have IA:(!w.params.followText "set-order" &&(!t.plain&&decide (es.size>1)))=true:=yV
  rw[ht.plain] at IA
  simp at IA
 ·refine wpAny_bind (wpAny_pure (wpAny_bind (wpAny_setEpoch_of ho hd hf ?_)))
  unfold newFields
  exact wpAny_bind (wpAny_newObj_type (wpAny_pure ⟨_,rfl,"set_iterator",_,⟨_,Heap.get?_push_size _ rfl,rfl⟩,cK.lookup,hQ⟩))
theorem Cq{it:Addr}{sl k n:Nat}{Q:Value→Shared→Prop}(hit:IsSI s.heap it a sl k n ep)(h:Q (.ref it) s):wpAny (model prog w) A (pyIter (.ref it)) Q E s:=by
 refine wpAny_pyIter_slot hit.typeIs ki (wpAny_call_entry ki hit.typeIs pC ?_ (rC _))
 show wpAny _ _ (ret (.ref it)) _ _ s
 exact wpAny_pure ⟨_,rfl,"set_iterator",_,hit.typeIs,cK.lookup,h⟩
theorem oV{k:Nat}{Q:Option (Value×Nat)→Shared→Prop}(ho:s.heap.get? a=some o)(hd:o.data= .set es ep t)(ht:TabOk t es.size (jL w))(hk:k≤es.size)
 (h:Q ((jY w a ep es)[k]?.map fun e=>(e.2,fZ w t (k+1))) s):wpAny (model prog w) A (setNext a (fZ w t k) k ep) Q E s:=by
 have hf:=ht.fits
 unfold setNext setsByText
 refine wpAny_bind (wpAny_setState_of ho hd hf (wpAny_bind (wpAny_bind (wpAny_askSetting (wpAny_pure ?_)))))
 have hl:=ht.led
 unfold jY fZ at h
 unfold fZ
 unfold jL at hl
 refine wpAny_ite_split (fun hb=>?_) fun hb=>?_
 ·have hb:w.params.followText "set-order"=true:=hb
  rw[if_pos hb,if_pos hb] at h
  dsimp only
  rw[bne_self_eq_false,if_neg (by decide),if_pos hb]
  unfold setWalk setsByText
  refine wpAny_bind (wpAny_bind (wpAny_setState_of ho hd hf (wpAny_bind (wpAny_bind (wpAny_askSetting (wpAny_pure ?_))))))
  refine wpAny_ite_split (fun _=>?_) fun nB=>absurd hb nB
  exact wpAny_bind (wpAny_askSetting (wpAny_pure (wpAny_pure h)))
 ·have hb:¬w.params.followText "set-order"=true:=hb
  have K0:w.params.followText "set-order"=false:=by simpa using hb
  rw[if_neg hb,if_neg hb] at h
  rw[K0] at hl
  dsimp only
  refine wpAny_ite_split (fun Oa=>?_) fun _=>?_
  ·have II:(!t.plain&&decide (es.size>1))=true:=Oa
   rw[ht.plain] at II
   simp at II
  ·refine wpAny_bind (wpAny_of_eq (a:=()) ?_ ?_)
   ·show (if (!t.led&& !es.isEmpty)=true then(unsupported "set:maker-not-led":Sem Unit) else pure ())=_
    rw[hl]
    rfl
   ·rw[if_neg hb,below_at ht.rise (by rw[ht.size];exact hk)]
    refine wpAny_pure ?_
    by_cases dP:k<es.size
    ·have h1:es[k]? =some es[k]:=Array.getElem?_eq_getElem dP
     have h2:t.place[k]? =some (t.place[k]'(by rw[ht.size];exact dP)):=Array.getElem?_eq_getElem (by rw[ht.size];exact dP)
     have h3:slotAt t.place (k+1)=t.place[k]'(by rw[ht.size];exact dP)+1:=by
      show t.place.getD k 0+1=_
      rw[Array.getD_eq_getD_getElem?,h2]
      rfl
     rw[h1,h2]
     rw[h1,h3] at h
     exact h
    ·have h1:es[k]? =none:=Array.getElem?_eq_none (by omega)
     rw[h1]
     rw[h1] at h
     exact h
theorem qV{α:Type}(next:Nat→Nat):∀(fuel k:Nat) (left:List α) (out:Array α),left.length=fuel→(pickOrder.go next fuel k left out).toList.Perm (out.toList++left)
 |0,k,left,out,h=>by
  rw[List.length_eq_zero_iff.mp h,List.append_nil]
  exact .refl _
 |fuel+1,k,left,out,h=>by
  unfold pickOrder.go
  have hi:next k % left.length<left.length:=Nat.mod_lt _ (by omega)
  rw[List.getElem?_eq_getElem hi]
  dsimp only
  refine(qV next fuel (k+1) _ _ (by rw[List.length_eraseIdx_of_lt hi];omega)).trans ?_
  rw[Array.toList_push,List.append_assoc]
  refine List.Perm.append_left _ ?_
  rw[List.eraseIdx_eq_take_drop_succ]
  have hp:=(List.perm_middle (a:=left[next k % left.length]) (l₁:=left.take (next k % left.length)) (l₂:=left.drop (next k % left.length+1))).symm
  rw[←List.drop_eq_getElem_cons hi,List.take_append_drop] at hp
  exact hp
theorem g8(w:World)(a:Addr)(ep:Nat)(es:Array (Int×Value)):(jY w a ep es).toList.Perm es.toList:=by
 unfold jY
 split
 ·exact(qV _ es.size 0 es.toList #[] (Array.length_toList ..)).trans (by simp)
 ·exact .refl _
theorem Bp{it:Addr}{k:Nat}{e:Int×Value}{Q:Option Value→Shared→Prop}(hit:IsSI s.heap it a (fZ w t k) k es.size ep)(fL:a≠it)(ho:s.heap.get? a=some o)(hd:o.data= .set es ep t)(ht:TabOk t es.size (jL w))(hx:(jY w a ep es)[k]? =some e)
 (hQ:∀h',IsSI h' it a (fZ w t (k+1)) (k+1) es.size ep→Heap.SameBut it s.heap h'→Q (some e.2) {s with heap:=h'}):wpAny (model prog w) A (pyNext (.ref it)) Q E s:=by
 have hsz:(jY w a ep es).size=es.size:=by rw[←Array.length_toList,(g8 w a ep es).length_eq,Array.length_toList]
 have dP:k<es.size:=by rw[←hsz];exact(Array.getElem?_eq_some_iff.mp hx).1
 obtain⟨oi,HK,MS,FV⟩:=id hit
 unfold pyNext
 refine wpAny_bind (wpAny_attempt (wpAny_callSpecial?_slot (name:=Str.ofString "__next__") hit.typeIs cK (wpAny_call_entry cK hit.typeIs iT ?_ (jx _))))
 unfold Builtin.«set_iterator.__next__» slotArgs
 simp only[List.isEmpty_nil,Bool.not_true,Bool.false_eq_true,↓reduceIte,bind_assoc,List.length_nil,bne_self_eq_false]
 refine wpAny_bind (wpAny_pure (wpAny_bind (wpAny_fieldsOf HK FV ?_)))
 simp only[rawInt]
 refine wpAny_bind (wpAny_setEntries_of ho hd ht.fits ?_)
 rw[if_neg (by simp)]
 simp only[Int.toNat_natCast]
 refine wpAny_bind (oV ho hd ht (Nat.le_of_lt dP) ?_)
 rw[hx]
 show wpAny _ _ (setField (.ref it) 0 (rawInt ((fZ w t (k+1):Nat):Int))>>=_) _ _ s
 refine wpAny_bind (wpAny_setField HK FV (by simp) ?_)
 have h1:(s.heap.update it (Obj.mapFields (·.setIfInBounds 0 (rawInt ((fZ w t (k+1):Nat):Int))))).get? it=some (Obj.mapFields (·.setIfInBounds 0 (rawInt ((fZ w t (k+1):Nat):Int))) oi):=Heap.get?_update_self _ HK (Obj.isFreed_of_fields (Obj.data_mapFields FV _))
 have d1:=Obj.data_mapFields FV (·.setIfInBounds 0 (rawInt ((fZ w t (k+1):Nat):Int)))
 show wpAny _ _ (setField (.ref it) 1 (rawInt ((k:Int)+1))>>=_) _ _ _
 refine wpAny_bind (wpAny_setField h1 d1 (by simp) ?_)
 refine wpAny_pure ⟨_,rfl,wpAny_pure (hQ _ ⟨_,Heap.get?_update_self _ h1 (Obj.isFreed_of_fields (Obj.data_mapFields d1 _)),(Obj.cls_mapFields ..).trans ((Obj.cls_mapFields ..).trans MS),?_⟩ ((Heap.SameBut.update ..).trans (Heap.SameBut.update ..)))⟩
 rw[Obj.data_mapFields d1]
 simp[rawInt]
theorem Dj{it:Addr}{Q:Option Value→Shared→Prop}(hh:A.handled=none)(hit:IsSI s.heap it a (fZ w t es.size) es.size es.size ep)(ho:s.heap.get? a=some o)(hd:o.data= .set es ep t)(ht:TabOk t es.size (jL w))
 (hQ:∀h',Heap.ExtBut it s.heap h'→Q none {s with heap:=h'}):wpAny (model prog w) A (pyNext (.ref it)) Q E s:=by
 have hsz:(jY w a ep es).size=es.size:=by rw[←Array.length_toList,(g8 w a ep es).length_eq,Array.length_toList]
 obtain⟨oi,HK,MS,FV⟩:=id hit
 unfold pyNext
 refine wpAny_bind (wpAny_attempt (wpAny_callSpecial?_slot (name:=Str.ofString "__next__") hit.typeIs cK (wpAny_call_entry cK hit.typeIs iT ?_ (jx _))))
 unfold Builtin.«set_iterator.__next__» slotArgs
 simp only[List.isEmpty_nil,Bool.not_true,Bool.false_eq_true,↓reduceIte,bind_assoc,List.length_nil,bne_self_eq_false]
 refine wpAny_bind (wpAny_pure (wpAny_bind (wpAny_fieldsOf HK FV ?_)))
 simp only[rawInt]
 refine wpAny_bind (wpAny_setEntries_of ho hd ht.fits ?_)
 rw[if_neg (by simp)]
 simp only[Int.toNat_natCast]
 refine wpAny_bind (oV ho hd ht (Nat.le_refl _) ?_)
 rw[Array.getElem?_eq_none (Nat.le_of_eq hsz)]
 show wpAny _ _ (setField (.ref it) 2 .none>>=_) _ _ s
 refine wpAny_bind (wpAny_setField HK FV (by simp) ?_)
 refine wpAny_bind ?_
 simp only[newExc,newTuple]
 refine wpAny_bind (wpAny_newObj_type ?_ (by size_fits))
 refine wpAny_bind (m:=firstArgMember _ _) (wpAny_of_eq (a:=Value.none) (by first | rfl | (simp only[firstArgMember];rfl)) ?_)
 refine wpAny_newObj_type ?_ (by size_fits)
 simp only[raiseNew]
 refine wpAny_bind (wpAny_handled ?_)
 rw[show A.in1.handled=none from hh]
 refine wpAny_bind (wpAny_pure (wpAny_throw ?_))
 refine wpAny_bind (wpAny_isInstance (T:="StopIteration") (b:=true) ⟨_,Heap.get?_push_size _ rfl,rfl⟩ isSubtype_stop ?_)
 exact wpAny_pure (hQ _ (((Heap.SameBut.update ..).extBut.push _).push _))
def HY(w:World)(a:Addr)(ep:Nat)(es:Array (Int×Value)):Nat→Value→Prop:=fun i v=>∃e,(jY w a ep es)[i]? =some e∧v=e.2
theorem zW(hh:A.handled=none)(I a:Addr)(fL:a≠I)(hd:o.data= .set es ep t)(ht:TabOk t es.size (jL w)):
 Walks prog w A I [I,a] [I] es.size (HY w a ep es) (fun i h=>IsSI h I a (fZ w t i) i es.size ep∧h.get? a=some o) where
 sub:=fun b hb=>by simp at hb;simp[hb]
 frame:=fun _ _ _ st hk=>⟨st.1.at fun o e=>hk I (by simp) o e,hk a (by simp) _ st.2⟩
 item:=fun i s Q E hi st hQ=>by
  have hsz:(jY w a ep es).size=es.size:=by rw[←Array.length_toList,(g8 w a ep es).length_eq,Array.length_toList]
  have hx:(jY w a ep es)[i]? =some ((jY w a ep es)[i]'(by omega)):=Array.getElem?_eq_getElem (by omega)
  exact Bp st.1 fL st.2 hd ht hx fun h' yZ rY=>hQ _ h' s.toks ⟨_,hx,rfl⟩ ⟨yZ,(rY.2 a fL).trans st.2⟩ fun b o hb e=>rY.extBut b o (fun h=>hb (by simp[h])) e
 done:=fun s Q E st hQ=>Dj hh st.1 st.2 hd ht fun h' K8=>hQ h' s.toks fun b o hb e=>K8 b o (fun h=>hb (by simp[h])) e
 self:=fun _ _ _ _ st hQ=>Cq st.1 hQ
theorem AX{Q:Bool→Shared→Prop}(hT:s.TypeIs (.ref a) "set")(h:Q false s):wpAny (model prog w) A (Builtin.List.listLengthHint (.ref a)) Q E s:=by
 unfold Builtin.List.listLengthHint
 refine wpAny_bind (wpAny_specialOf hT F.slot_set_len.lookup ?_)
 generalize La:("set.__len__":String)=Pa
 wp_delta
 rw[show splitId Pa=some ("set","__len__") from by subst La;decide+kernel]
 subst La
 refine wpAny_bind (wpAny_isInstance (T:="set") (b:=true) hT (by rw[isSubtype_type];kernel_rfl) ?_)
 refine wpAny_ite_split (fun yV=>absurd yV (by decide)) fun _=>wpAny_ite_split (fun _=>wpAny_bind (wpAny_typeOf hT (wpAny_pure h))) fun yV=>absurd (by decide+kernel) yV
theorem Ey{a:Addr}(hex:o.ExactSet)(hd:o.data= .set es ep t)(ht:TabOk t es.size (jL w)):KdlSrc prog w "set" a a es.size (HY w a ep es) (fun h=>h.get? a=some o) where
 type:=fun _ hm=>⟨o,hm,hex.1⟩
 there:=fun _ hm=>⟨Heap.lt_size hm,Heap.lt_size hm⟩
 keep:=fun _ _ hm hk=>hk a (.inl rfl) o hm
 notList:=by decide
 notTuple:=by decide
 hint:=fun _ _ s _ hm hq=>AX ⟨o,hm,hex.1⟩ hq
 iter:=fun _ _ hh hm=>⟨_,_,(fun _ _ hq=>A8 hm hex hd ht hq),zW hh _ a (Nat.ne_of_lt (Heap.lt_size hm)) hd ht,⟨⟨_,Heap.get?_push_size _ rfl,rfl,by unfold fZ;split<;>rfl⟩,Heap.get?_push_of_some _ hm⟩⟩
end
end L3
namespace L3
open PySem PySem.Spec L2 SeqAt HT
open PyProof.Rows hiding St
def kj:D→M D
 | .lst ds=>match eL ds with
   |some ks=>if cC ks=true∧(ks.map dF).Nodup then M.ret (.lst ((sortI ks).map tupI)) else M.stuck
   |none=>M.stuck
 |_=>M.stuck
section
variable{X:Cx}{Xw:Nat→Hp→Prop}{e:Expr}{δ:DE}{pos sI p p2:Pos}
theorem w_{pins:List (Addr×Obj)}{σ:St}{H:Hp}{s:Shared}{Q:VK}(I:Inv X pins σ H s)(hc:X.calm=true){S:Addr}{ws:List V}{ks:List (List Int)}(hr:bP H ws ks)(hk:cC ks=true)
 (hS:SetH (jL X.w) s.heap S (ze X.prog X.w (fun i=>ks.getD i []) (fun i=>z9 (ws.getD i .non)) ks.length))
 (q:∀(q:Addr) (us:List V),H q=none→bP H us (sortI ks)→Q (.ref q) (upd H q (.lst us))):wpAny (model X.prog X.w) X.A (call (.builtin "sorted") [.ref S]) (EP X pins σ Q) X.xe s:=by
 obtain⟨o,es,ep,t,ho,hex,K6,hp,ht⟩:=hS
 unfold cC at hk
 rw[Bool.and_eq_true,Bool.and_eq_true] at hk
 have hd:ks.Nodup:=of_decide_eq_true hk.1.1
 have HJ:ks.length<64:=of_decide_eq_true hk.1.2
 have fL:∀k∈ks,k≠[]:=fun k pq z=>by have:=List.all_eq_true.mp hk.2 k pq;rw[z] at this;cases this
 have Ka:es.size=ks.length:=by rw[←Array.length_toList,hp.length_eq];unfold ze;rw[List.length_map,List.length_range]
 have vE:sizeLine=16777216:=sizeLine_eq
 have xP:=eN hr
 refine Calls.call_function_entry kind_sorted plain_sorted entry_sorted (args_sorted1 _) ?_
 unfold Builtin.«sorted»
 refine wpAny_bind (m:=checkCount "sorted" 1 1 _) (wpAny_pure (wpAny_bind (PySem.W.kdu_collect (A:=X.A.in1) (Ey hex K6 ht) (I.ok.hd hc) ho (by rw[Ka,vE];omega) fun h1 tk acc Ba pD=>?_)))
 have I1:Inv X pins σ H {s with heap:=h1,toks:=tk}:=I.kept (t':=tk) fun b ob e=>Ba b ob e
 obtain⟨js,Lg,NK⟩:∃js:List Nat,js.Perm (List.range ks.length)∧acc.toList=js.map fun j=>Value.ref (z9 (ws.getD j .non)):=by
  have e1:acc.toList=(jY X.w S ep es).toList.map (·.2):=by
   have hsz:(jY X.w S ep es).size=es.size:=by rw[←Array.length_toList,(g8 X.w S ep es).length_eq,Array.length_toList]
   refine List.ext_getElem? fun i=>?_
   rw[List.getElem?_map]
   by_cases hi:i<es.size
   ·have ha:acc[i]? =some (acc[i]'(by rw[pD.1];exact hi)):=Array.getElem?_eq_getElem (by rw[pD.1];exact hi)
    obtain⟨e,q1,q2⟩:=pD.2 i _ ha
    rw[Array.getElem?_toList,Array.getElem?_toList,q1,ha,q2]
    rfl
   ·rw[List.getElem?_eq_none (by rw[Array.length_toList,pD.1];omega),List.getElem?_eq_none (by rw[Array.length_toList];omega)]
    rfl
  have e2:((jY X.w S ep es).toList.map (·.2)).Perm ((List.range ks.length).map fun j=>Value.ref (z9 (ws.getD j .non))):=by
   have:=(((g8 X.w S ep es).trans hp).map (·.2))
   unfold ze at this
   rw[List.map_map] at this
   exact this
  rw[←e1] at e2
  have lift:∀(l:List Value) (r:List Nat),l.Perm (r.map fun j=>Value.ref (z9 (ws.getD j .non)))→∃js:List Nat,js.Perm r∧l=js.map fun j=>Value.ref (z9 (ws.getD j .non)):=by
   intro l
   induction l with
   |nil=>
    intro r h
    have:=List.Perm.eq_nil h.symm
    exact⟨[],by rw[List.map_eq_nil_iff.mp this],rfl⟩
   |cons v l ih=>
    intro r h
    obtain⟨j,hj,ej⟩:=List.mem_map.mp (h.mem_iff.mp (List.mem_cons_self ..))
    obtain⟨r1,r2,rfl⟩:=List.append_of_mem hj
    have h':l.Perm ((r1++r2).map fun j=>Value.ref (z9 (ws.getD j .non))):=by
     have h1:=h
     rw[List.map_append,List.map_cons,←ej] at h1
     rw[List.map_append]
     exact List.Perm.cons_inv (h1.trans (by rw[ej];exact List.perm_middle))
    obtain⟨js,k1,k2⟩:=ih _ h'
    exact⟨j::js,(k1.cons j).trans List.perm_middle.symm,by rw[List.map_cons,←k2,ej]⟩
  exact lift _ _ e2
 have PY:js.length=ks.length:=by rw[Lg.length_eq,List.length_range]
 have v3:∀j∈js,j<ks.length:=fun j hj=>List.mem_range.mp (Lg.mem_iff.mp hj)
 have E6:bP H (js.map fun i=>ws.getD i .non) (js.map fun i=>ks.getD i []):=fX hr fun i hi=>by rw[xP];exact v3 i hi
 have rv:Vals (js.map fun i=>ws.getD i .non) acc.toList:=by
  rw[NK]
  refine o_ (by simp) fun i v u e1 e2=>?_
  rw[List.getElem?_map] at e1 e2
  cases hj:js[i]? with
  |none=>rw[hj] at e1;cases e1
  |some j=>
   rw[hj] at e1 e2
   cases e1
   cases e2
   obtain⟨a,e3,_⟩:=j_ hr (i:=j) (by rw[xP];exact v3 j (List.mem_of_getElem? hj))
   show RelV (ws.getD j .non) (.ref (z9 (ws.getD j .non)))
   rw[e3]
   rfl
 have AY:(js.map fun i=>ks.getD i []).Perm ks:=by
  have h1:=Lg.map fun i=>ks.getD i []
  have h2:(List.range ks.length).map (fun i=>ks.getD i [])=ks:=by
   refine List.ext_getElem (by simp) fun i h1 h2=>?_
   rw[List.getElem_map,List.getElem_range,List.getD_eq_getElem?_getD,List.getElem?_eq_getElem h2]
   rfl
  rwa [h2] at h1
 generalize Qb:(js.map fun i=>ws.getD i .non)=vs' at E6 rv
 generalize Dv:(js.map fun i=>ks.getD i [])=ks' at E6 AY
 have pk:ks'.Nodup:=AY.nodup_iff.mpr hd
 have I8:sortI ks'=sortI ks:=kc (eR pk) (eR hd) fun x=>by rw[cM,cM];exact AY.mem_iff
 have xQ:=eN E6
 have P4:=rv.length
 have P5:=AY.length_eq
 have OZ:=iF I1 E6 rv fun k pq=>fL k (AY.mem_iff.mp pq)
 refine wpAny_bind (wpAny_newList ?_ (by rw[vE];omega))
 have C2:(h1.push (seqObj "list" acc.toList.toArray 0)).get? h1.objs.size=some (seqObj "list" acc.toList.toArray 0):=Heap.get?_push_size _ rfl
 refine wpAny_bind (wpAny_holding (wpAny_call_entry slot_list_sort ⟨_,C2,rfl⟩ entry_list_sort (lx (s:={s with heap:=h1.push (seqObj "list" acc.toList.toArray 0),toks:=tk}) C2
  (OZ.keep (a:=h1.objs.size) (fun b o _ e=>Heap.get?_push_of_some _ e) (fun o e=>absurd (Heap.lt_size e) (Nat.lt_irrefl _))) pk (by omega) fun P h' c' hP hR rW ur=>?_) (args_list_sort _)))
 have vZ:∀i∈P.toList,i<vs'.length:=fun i hi=>by
  obtain⟨j,hj,rfl⟩:=List.mem_iff_getElem.mp hi
  have h':j<P.size:=by rw[Array.length_toList] at hj;exact hj
  have:=hP.lt j (by rw[hP.sz] at h';exact h')
  rw[dh,Array.getElem?_eq_getElem h'] at this
  have e:P.toList[j]=P[j]:=by simp
  rw[e]
  have:P[j]<acc.toList.length:=this
  omega
 have IB:acc.toList.length=ks'.length:=by omega
 have FL:PN ks'.length P:=by rw[←IB];exact hP
 have Iw:Ri (fun i j=>di (ks'.getD i []) (ks'.getD j [])) P ks'.length:=by rw[←IB];exact hR
 have E7:=ly pk FL Iw
 have I_:=fX E6 vZ
 rw[E7,I8] at I_
 refine⟨_,rfl,wpAny_pure ⟨_,rfl,⟨.ref h1.objs.size,_,I1.laid (a:=h1.objs.size) (t':=tk) (o:= .lst (P.toList.map fun i=>vs'.getD i .non)) (fun b ob e=>ur b ob (Nat.ne_of_lt (Heap.lt_size e)) (Heap.get?_push_of_some _ e)) (Nat.le_refl _) ?_,rfl,q _ _ (I1.hok.fresh (Nat.le_refl _)) I_⟩⟩⟩
 exact⟨by rw[List.length_map,Array.length_toList,hP.sz,vE];omega,_,c',iJ rv vZ,rW⟩
theorem zF(hc:X.calm=true)(hu:X.A.units+64<cLine)(hg:Gl X "sorted")(hm:X.mg "sorted"=none)(Og:Gl X "set")(F7:X.mg "set"=none)(hb:bootBuiltins "sorted"=some (.builtin "sorted"))(IE:bootBuiltins "set"=some (.type "set"))(ha:PD X Xw e δ)
 (MW:starEach [e] X.env=[(false,eval e X.env)]:=by rfl)(he:starEach [.Call (.Name "set" p2) [e] [] sI] X.env=[(false,eval (.Call (.Name "set" p2) [e] [] sI) X.env)]:=by rfl):
 PD X Xw (.Call (.Name "sorted" p) [.Call (.Name "set" p2) [e] [] sI] [] pos) (d1 kj δ):=fun pins s σ H Q I ⟨F,ρ,S,w⟩=>by
 have w:WP X.K Xw F H (δ ρ>>=kj) Q:=w
 refine wpAny_Call_Name_kw (je I hg hm hb ?_ (by decide) (by decide))
 refine PyProof.Rows.callWith_builtin1 ?_ he rfl
 rw[he]
 refine Calls.spliced_cons (wpAny_Call_Name_kw (je I Og F7 IE ?_ (by decide) (by decide)))
 refine PyProof.Rows.callWith_type1 ?_ MW rfl
 rw[MW]
 refine Calls.spliced_cons (bG (ha pins s σ H _ I ⟨F,ρ,S,WP.bind w⟩) fun u s1 ⟨v,H1,I1,r,F1,d,e1,q1,w1⟩=>Calls.spliced_nil ?_)
 unfold kj at w1
 split at w1
 ·rename_i ds
  split at w1
  ·rename_i ks FY
   split at w1
   ·rename_i hok
    obtain⟨a,ws,rfl,h2,h3,h4⟩:=q1
    cases (show u=_ from r)
    have hr:=(kM e1.fh FY h3).1
    have hl:=kN FY h3
    have HJ:ks.length<64:=by
     have:=hok.1
     unfold cC at this
     rw[Bool.and_eq_true,Bool.and_eq_true] at this
     exact of_decide_eq_true this.1.2
    refine Cs I1 hc hu (SqL.of (e1.fh _ _ h2)) hr (by omega) hok.2 fun h' tk hS hk=>Calls.spliced_nil ?_
    refine w_ (s:={s1 with heap:=h',toks:=tk}) (I1.kept hk) hc hr hok.1 hS fun q us hq O4=>?_
    obtain⟨F2,e2,r2⟩:=oO e1.fh O4
    have e3:=Ext.lay (o:= .lst us) e2.fh hq
    exact WP.fin w1 (e2.trans e3) ⟨q,_,rfl,az,DenL.mono e3.ff (j9 r2 fun k hk=>hl k (cM.mp hk)),by rw[List.length_map,iG];unfold lim;omega⟩
   ·exact w1.elim
  ·exact w1.elim
 ·exact w1.elim
end
end L3
namespace L3
open PySem PySem.Spec L2 HT
open PyProof.Rows hiding St
section
variable{X:Cx}{Xw:Nat→Hp→Prop}{e:Expr}{δs:DA}{pos p:Pos}
end
end L3
namespace L3
def JQ(n:Nat)(δs:DA):DS:=fun _=>M.stuck
end L3
namespace K1
open PySem PySem.Spec L2 L3
open PyProof.Rows hiding St
def xm:DS:=(bc (dE (dA gF (aC (dV 0) (aC (dC (.raw (.ty "int"))) aN))) (EO (dA gF (aC (dV 0) (aC (dC (.raw (.ty "bool"))) aN))))))
def bj:List D→M D:=bU 1 (xm)
def vx:DS:=(bc (dE (dA gF (aC (dV 0) (aC (dC (.raw (.ty "str"))) aN))) (dE (d2 mz (dA bt (aC (dV 0) aN)) (dC (.int 1))) (d2 (AK false) (dV 0) (dC (.str "abcdef"))))))
def bI:List D→M D:=bU 1 (vx)
def pd:DS:=(bc (a9 0 (fun ρ=>(aC (dA bt (aC (d2 a_ (dV 0) (dC (.int 0))) aN)) aN) ρ>>=ke) bw (dA bB (aC (dV 2) (aC (dV 0) aN)))))
def bQ:List D→M D:=bU 2 (pd)
def vA:DS:=(bc (d2 gE (d2 a_ (dV 0) (d2 a_ (dV 1) (dC (.int 0)))) (d2 a_ (dV 1) (dC (.int 1)))))
def da:List D→M D:=bU 2 (vA)
def xk:DS:=(aG (cx 3 (dA z8 (aC (d2 d5 (d2 a_ (dV 0) (dC (.int 0))) (d2 a_ (dV 1) (dC (.int 0)))) aN))) (aG (cx 4 (dA z8 (aC (d2 d5 (d2 a_ (dV 0) (dC (.int 1))) (d2 a_ (dV 1) (dC (.int 1)))) aN))) (aG (fk (df (d2 mz (dV 2) (dC (.int 4)))) (bc (d2 mz (d2 bX (dV 3) (dV 4)) (dC (.int 1)))) b_) (bc (d2 mz (dA wj (aC (dV 3) (aC (dV 4) aN))) (dC (.int 1)))))))
def c6:List D→M D:=bU 5 (xk)
def EJ:DS:=(aG (Cm 1) (aG (fun ρ=>noex ((fj (putN 2) (Gh (i_ (dV 0)) (fun ρ=>(dV 0) ρ>>=lJ)) (du [2] (ma 1 (dV 2) (dC (.bl true))))) ρ)) (Cj 1 (bc (dV 1)))))
def jC:List D→M D:=bU 3 (EJ)
def pf:DS:=(aG (fk (df (d2 mz (dV 0) (dA fQ aN))) (bc (d2 gT (dC (.int 7)) (dV 1))) b_) (bc (d2 bX (d2 AM (dV 0) (d2 jE (dV 1) (dA bt (aC (dV 0) aN)))) (d2 gT (dC (.int 6553)) (d2 kK (dV 1) (dA bt (aC (dV 0) aN)))))))
def eJ:List D→M D:=bU 2 (pf)
def vy:DS:=(aG (fk (kE (b6 (bH (dA gF (aC (dV 0) (aC (dC (.raw (.ty "str"))) aN))))) (b6 (df (vQ (fun i j=>decide (i≤j)) (fun i j=>decide (i≤j)) (dC (.int 1)) (dA bt (aC (dV 0) aN)) (dC (.int 8)))))) (bc (dC (.bl false))) b_) (bc (dA allM (aC (a9 0 (fun ρ=>(dV 0) ρ>>=oW) bw (ak 1 bI (aC (dV 0) aN))) aN))))
def eI:List D→M D:=bU 1 (vy)
def ro:DS:=(aG (fk (kE (b6 (bH (dA gF (aC (dV 1) (aC (dC (.raw (.ty "tuple"))) aN))))) (df (d2 mB (dA bt (aC (dV 1) aN)) (dC (.int 2))))) (bc (dC (.bl false))) b_) (aG (fk (kE (b6 (bH (ak 1 bj (aC (d2 a_ (dV 1) (dC (.int 0))) aN)))) (b6 (bH (ak 1 bj (aC (d2 a_ (dV 1) (dC (.int 1))) aN))))) (bc (dC (.bl false))) b_) (bc (dE (vQ (fun i j=>decide (i≤j)) (fun i j=>decide (i<j)) (dC (.int 0)) (d2 a_ (dV 1) (dC (.int 0))) (dA bt (aC (dV 0) aN))) (vQ (fun i j=>decide (i≤j)) (fun i j=>decide (i<j)) (dC (.int 0)) (d2 a_ (dV 1) (dC (.int 1))) (dA bt (aC (d2 a_ (dV 0) (dC (.int 0))) aN)))))))
def iA:List D→M D:=bU 2 (ro)
def vC:DS:=(fk (kE (b6 (bH (ak 1 bj (aC (dV 0) aN)))) (df (d2 (Dr true) (dV 0) (dA bB (aC (dC (.int 4)) (aC (dC (.int 8)) aN)))))) (JQ 1 (aC (dC (.str "ways are 4 or 8")) aN)) b_)
def eW:List D→M D:=bU 1 (vC)
def vw:DS:=(aG (wU 1) (aG (fun ρ=>noex ((fj (putN 2) (fun ρ=>(aC (dA bt (aC (dV 0) aN)) aN) ρ>>=ke) (du [2] (Cg 1 (ak 2 bQ (aC (dV 0) (aC (dV 2) aN)))))) ρ)) (Cj 1 (bc (dV 1)))))
def cz:List D→M D:=bU 3 (vw)
def tH:DS:=(aG (wU 3) (aG (fun ρ=>noex ((fj (putN 4) (fun ρ=>(aC (dA wj (aC (d2 d5 (d2 a_ (dV 1) (dC (.int 0))) (dC (.int 1))) (aC (dC (.int 0)) aN))) (aC (dA zk (aC (d2 bX (d2 a_ (dV 1) (dC (.int 0))) (dC (.int 2))) (aC (dA bt (aC (dV 0) aN)) aN))) aN)) ρ>>=q_) (du [4,5] (fj (putN 5) (fun ρ=>(aC (dA wj (aC (d2 d5 (d2 a_ (dV 1) (dC (.int 1))) (dC (.int 1))) (aC (dC (.int 0)) aN))) (aC (dA zk (aC (d2 bX (d2 a_ (dV 1) (dC (.int 1))) (dC (.int 2))) (aC (dA bt (aC (d2 a_ (dV 0) (dC (.int 0))) aN)) aN))) aN)) ρ>>=q_) (du [5] (fk (bH (ak 3 c6 (aC (dV 1) (aC (dA bB (aC (dV 4) (aC (dV 5) aN))) (aC (dV 2) aN))))) (mI 3 (dA bB (aC (dV 4) (aC (dV 5) aN)))) b_))))) ρ)) (Cj 3 (bc (dV 3)))))
def cH:List D→M D:=bU 6 (tH)
def me:DS:=(aG (cx 3 (d2 jE (d2 bX (d2 gT (d2 jE (ak 2 eJ (aC (dV 0) (aC (dV 1) aN))) (dC (.int 2147483563))) (dC (.int 69069))) (d2 gT (dC (.int 104723)) (d2 bX (dV 1) (dC (.int 1))))) (dC (.int 2147483563)))) (aG (cx 3 (d2 jE (d2 bX (d2 gT (dV 3) (dV 3)) (d2 kK (dV 3) (dC (.int 3)))) (dC (.int 2147483399)))) (bc (d2 jE (d2 kK (d2 jE (d2 bX (d2 gT (dV 3) (dV 3)) (d2 kK (dV 3) (dC (.int 7)))) (dC (.int 2147483647))) (dC (.int 11))) (dV 2)))))
def aA:List D→M D:=bU 4 (me)
def pe:DS:=(aG (fk (kE (b6 (bH (dA gF (aC (dV 0) (aC (dC (.raw (.ty "tuple"))) aN))))) (b6 (df (vQ (fun i j=>decide (i≤j)) (fun i j=>decide (i≤j)) (dC (.int 1)) (dA bt (aC (dV 0) aN)) (dC (.int 8)))))) (bc (dC (.bl false))) b_) (aG (fk (b6 (bH (dA allM (aC (a9 0 (fc (dV 0)) bw (ak 1 eI (aC (dV 0) aN))) aN)))) (bc (dC (.bl false))) b_) (bc (dA allM (aC (a9 0 (fc (dV 0)) bw (d2 mz (dA bt (aC (dV 0) aN)) (dA bt (aC (d2 a_ (dV 1) (dC (.int 0))) aN)))) aN)))))
def gg:List D→M D:=bU 1 (pe)
def vB:DS:=(fk (b6 (bH (ak 2 iA (aC (dV 0) (aC (dV 1) aN))))) (JQ 2 (aC (dC (.str "a tuple (row, column) on the board is asked for")) aN)) b_)
def dU:List D→M D:=bU 2 (vB)
def tF:DS:=(aG (cx 3 (ak 2 da (aC (dV 0) (aC (dV 1) aN)))) (bc (a9 0 (i_ (ak 3 cH (aC (dV 0) (aC (dV 1) (aC (dV 2) aN))))) (df (d2 mz (ak 2 da (aC (dV 1) (aC (dV 0) aN))) (dV 4))) (dV 0))))
def bV:List D→M D:=bU 4 (tF)
def vz:DS:=(aG (cx 3 (d2 bX (dC (.int 1)) (ak 3 aA (aC (dV 0) (aC (dV 1) (aC (dV 2) aN)))))) (aG (cx 4 (d2 bX (dC (.int 1)) (ak 3 aA (aC (dV 0) (aC (d2 bX (dV 1) (dC (.int 1))) (aC (dV 2) aN)))))) (aG (cx 5 (d2 AL (dA fQ (aC (dC (.str "ab")) (aC (dC (.str "abc")) (aC (dC (.str "aab")) (aC (dC (.str "fa")) aN))))) (ak 3 aA (aC (dV 0) (aC (d2 bX (dV 1) (dC (.int 2))) (aC (dC (.int 4)) aN)))))) (aG (cx 6 (dA bB aN)) (aG (fun ρ=>noex ((fj (putN 7) (fun ρ=>(aC (dV 3) aN) ρ>>=ke) (du [7,8] (aG (cx 8 (a9 0 (fun ρ=>(aC (dV 4) aN) ρ>>=ke) bw (d2 gE (dV 6) (ak 3 aA (aC (dV 1) (aC (d2 bX (d2 bX (d2 bX (dV 2) (dC (.int 3))) (d2 gT (dC (.int 7)) (dV 8))) (dV 0)) (aC (dA bt (aC (dV 6) aN)) aN))))))) (cx 6 (d2 ug (dV 6) (dA bB (aC (dM vF joinM (dC (.str "")) (aC (dV 8) aN)) aN))))))) ρ)) (bc (dV 6)))))))
def c_:List D→M D:=bU 9 (vz)
def tG:DS:=(fk (b6 (bH (ak 1 gg (aC (dV 0) aN)))) (JQ 0 (aC (dC (.str "a tuple of 1 to 8 texts of 1 to 8 letters, all as long, is asked for")) aN)) b_)
def aM:List D→M D:=bU 1 (tG)
def tJ:DS:=(aG (Ck 3 (fun ρ=>(dV 1) ρ>>=fun x=>(dC .non) ρ>>=fun y=>qa x y)) (aG (cx 4 (dA fQ (aC (dV 1) aN))) (aG (fun ρ=>noex ((Co (bH (dV 4)) (du [5,6,7] (aG (wU 5) (aG (fj (putN 6) (i_ (dV 4)) (du [6,7] (fj (putN 7) (i_ (ak 3 bV (aC (dV 0) (aC (dV 6) (aC (dV 2) aN))))) (du [7] (fk (CJ (df (d2 (jc true) (dV 7) (dV 3)))) (aG (ma 3 (dV 7) (dV 6)) (mI 5 (dV 7))) b_))))) (Cj 5 (cx 4 (dV 5))))))) ρ)) (Cj 3 (bc (dV 3))))))
def bW:List D→M D:=bU 8 (tJ)
def ph:DS:=(bc (dA rl (aC (a9 0 (fc (Aq (dV 0) (oS (dV 1)) (oS (d2 bX (dV 3) (dC (.int 1)))))) bw (Aq (dV 0) (oS (dV 3)) (oS (d2 bX (dV 5) (dC (.int 1)))))) aN)))
def bR:List D→M D:=bU 5 (ph)
def tK:DS:=(aG (wU 2) (aG (fun ρ=>noex ((fj (putN 3) (fc (dV 0)) (du [3] (mI 2 (dM vF joinM (dC (.str "")) (aC (a9 0 (fun ρ=>(dV 3) ρ>>=oW) bw (p_ (dV 2) (dV 0) (dV 0))) aN))))) ρ)) (Cj 2 (bc (dA rl (aC (dV 2) aN))))))
def cI:List D→M D:=bU 4 (tK)
def pZ:DS:=(fk (b6 (bH (ak 1 bI (aC (dV 0) aN)))) (JQ 3 (aC (dC (.str "one of the letters a to f is asked for")) aN)) b_)
def cV:List D→M D:=bU 1 (pZ)
def zY:DS:=(aG (cx 3 (d2 d5 (d2 bX (d2 a_ (dV 2) (dC (.int 0))) (dA bt (aC (dV 1) aN))) (dC (.int 1)))) (aG (cx 4 (d2 d5 (d2 bX (d2 a_ (dV 2) (dC (.int 1))) (dA bt (aC (d2 a_ (dV 1) (dC (.int 0))) aN))) (dC (.int 1)))) (bc (d2 mz (ak 5 bR (aC (dV 0) (aC (d2 a_ (dV 2) (dC (.int 0))) (aC (d2 a_ (dV 2) (dC (.int 1))) (aC (dV 3) (aC (dV 4) aN)))))) (dV 1)))))
def eB:List D→M D:=bU 5 (zY)
def pY:DS:=(bc (dA bB (aC (ak 3 aA (aC (dV 0) (aC (dV 1) (aC (dA bt (aC (dV 2) aN)) aN)))) (aC (ak 3 aA (aC (dV 0) (aC (d2 bX (dV 1) (dC (.int 1))) (aC (dA bt (aC (d2 a_ (dV 2) (dC (.int 0))) aN)) aN)))) aN))))
def cU:List D→M D:=bU 3 (pY)
def xn:DS:=(aG (iO (ak 1 aM (aC (dV 0) aN))) (bc (dA rl (aC (a9 0 (fc (dV 0)) bw (Fx (dV 0) (d1 GC (dC (.int 1))))) aN))))
def dG:List D→M D:=bU 1 (xn)
def zX:DS:=(aG (iO (ak 1 aM (aC (dV 0) aN))) (aG (iO (ak 2 dU (aC (dV 0) (aC (dA bB (aC (dV 1) (aC (dV 2) aN))) aN)))) (aG (iO (ak 2 dU (aC (dV 0) (aC (dA bB (aC (dV 3) (aC (dV 4) aN))) aN)))) (aG (fk (kE (df (d2 Iq (dV 3) (dV 1))) (df (d2 Iq (dV 4) (dV 2)))) (JQ 2 (aC (dC (.str "the second cell is to be neither above the first nor left of it")) aN)) b_) (bc (ak 5 bR (aC (dV 0) (aC (dV 1) (aC (dV 2) (aC (dV 3) (aC (dV 4) aN)))))))))))
def bF:List D→M D:=bU 5 (zX)
def xl:DS:=(aG (iO (ak 1 aM (aC (dV 0) aN))) (aG (iO (ak 1 aM (aC (dV 1) aN))) (bc (a9 0 (i_ (ak 1 cz (aC (dV 0) aN))) (bH (ak 3 eB (aC (dV 1) (aC (dV 2) (aC (dV 0) aN))))) (dV 0)))))
def aR:List D→M D:=bU 2 (xl)
def tI:DS:=(aG (iO (ak 1 aM (aC (dV 0) aN))) (aG (Fi 1) (aG (fun ρ=>noex ((fj (putN 2) (fun ρ=>(dM vF joinM (dC (.str "")) (aC (dV 0) aN)) ρ>>=oW) (du [2] (fk (CJ (df (d2 (jc true) (dV 2) (dV 1)))) (ma 1 (dV 2) (J4 (d2 gE (dC (.str "abcdef")) (dA lK (aC (dV 1) aN))))) b_))) ρ)) (Cj 1 (bc (ak 2 cI (aC (dV 0) (aC (dV 1) aN))))))))
def aI:List D→M D:=bU 3 (tI)
def z0:DS:=(aG (iO (ak 1 aM (aC (dV 0) aN))) (aG (iO (ak 1 cV (aC (dV 1) aN))) (aG (iO (ak 1 cV (aC (dV 2) aN))) (bc (ak 2 cI (aC (dV 0) (aC (rN (dV 1) (dV 2) (dV 2) (dV 1)) aN)))))))
def cf:List D→M D:=bU 3 (z0)
def pX:DS:=(aG (wU 2) (aG (Cm 3) (aG (fun ρ=>noex ((fj (putN 4) (i_ (ak 1 cz (aC (dV 0) aN))) (du [4,5] (fk (CJ (df (d2 (jc true) (dV 4) (dV 3)))) (aG (cx 5 (dA rh (aC (ak 3 bW (aC (dV 0) (aC (dV 4) (aC (dV 1) aN)))) aN))) (aG (mI 2 (dV 5)) (zN 3 (ak 1 jC (aC (dV 5) aN))))) b_))) ρ)) (Cj 2 (bc (dV 2))))))
def dO:List D→M D:=bU 6 (pX)
def xj:DS:=(bc (d2 mz (ak 1 aI (aC (dV 0) aN)) (ak 1 aI (aC (dV 1) aN))))
def bh:List D→M D:=bU 2 (xj)
def zZ:DS:=(aG (iO (ak 1 aM (aC (dV 0) aN))) (aG (iO (ak 1 eW (aC (dV 1) aN))) (bc (ak 2 dO (aC (dV 0) (aC (dV 1) aN))))))
def cb:List D→M D:=bU 2 (zZ)
def mf:DS:=(cx 1 (ak 3 c_ (aC (dV 0) (aC (dC (.int 0)) (aC (dC (.int 5)) aN)))))
def mh:DS:=(Cf (oK [2,3]) (ak 3 cU (aC (dV 0) (aC (dC (.int 60)) (aC (dV 1) aN)))))
def mi:DS:=(cx 4 (d2 bX (dV 2) (ak 3 aA (aC (dV 0) (aC (dC (.int 62)) (aC (d2 d5 (dA bt (aC (dV 1) aN)) (dV 2)) aN))))))
def mj:DS:=(cx 5 (d2 bX (dV 3) (ak 3 aA (aC (dV 0) (aC (dC (.int 63)) (aC (d2 d5 (dA bt (aC (d2 a_ (dV 1) (dC (.int 0))) aN)) (dV 3)) aN))))))
def ml:DS:=(cx 6 (ak 5 bF (aC (dV 1) (aC (dV 2) (aC (dV 3) (aC (dV 4) (aC (dV 5) aN)))))))
def mm:DS:=(cx 7 (ak 2 aR (aC (dV 1) (aC (dV 6) aN))))
def mn:DS:=(fk (kE (df (d2 (yT true) (dA bB (aC (dV 2) (aC (dV 3) aN))) (dV 7))) (df (d2 mB (dV 7) (d1 kj (dV 7))))) (bc (dC (.bl false))) b_)
def mq:DS:=(fk (df (d2 mB (ak 2 aR (aC (dV 1) (aC (dV 1) aN))) (dA fQ (aC (dA bB (aC (dC (.int 0)) (aC (dC (.int 0)) aN))) aN)))) (bc (dC (.bl false))) b_)
def mr:DS:=(fun ρ=>noex ((fj (oK [8,9]) (i_ (dV 7)) (du [8,9] (fk (df (d2 mB (ak 5 bF (aC (dV 1) (aC (dV 8) (aC (dV 9) (aC (d2 d5 (d2 bX (dV 8) (dV 4)) (dV 2)) (aC (d2 d5 (d2 bX (dV 9) (dV 5)) (dV 3)) aN)))))) (dV 6))) (bc (dC (.bl false))) b_))) ρ))
def mw:DS:=(cx 10 (a9 2 (i_ (dV 7)) bw (dA bB (aC (dV 0) (aC (d2 bX (d2 d5 (d2 d5 (d2 d5 (dA bt (aC (d2 a_ (dV 3) (dC (.int 0))) aN)) (dC (.int 1))) (dV 1)) (dV 7)) (dV 5)) aN)))))
def kx:DS:=(fk (df (d2 mB (ak 2 aR (aC (ak 1 dG (aC (dV 1) aN)) (aC (ak 1 dG (aC (dV 6) aN)) aN))) (dA Ez (aC (dV 10) aN)))) (bc (dC (.bl false))) b_)
def ky:DS:=(cx 11 (ak 5 bF (aC (dV 6) (aC (dC (.int 0)) (aC (dC (.int 0)) (aC (d2 kK (d2 d5 (dV 4) (dV 2)) (dC (.int 2))) (aC (d2 kK (d2 d5 (dV 5) (dV 3)) (dC (.int 2))) aN)))))))
def kz:DS:=(fk (df (d2 mB (a9 0 (i_ (dV 7)) (df (d2 (yT true) (dV 0) (ak 2 aR (aC (dV 2) (aC (dV 12) aN))))) (dV 0)) (dA fQ aN))) (bc (dC (.bl false))) b_)
def kA:DS:=(fun ρ=>noex ((fj (oK [12,13]) (fc (dA bB (aC (dA bB (aC (dC (.str "a")) (aC (dC (.str "b")) aN))) (aC (dA bB (aC (dC (.str "a")) (aC (dC (.str "d")) aN))) (aC (dA bB (aC (dC (.str "e")) (aC (dC (.str "f")) aN))) (aC (dA bB (aC (dC (.str "c")) (aC (dC (.str "c")) aN))) aN)))))) (du [12,13,14] (aG (cx 14 (ak 3 cf (aC (dV 1) (aC (dV 12) (aC (dV 13) aN))))) (aG (fk (kE (df (d2 mB (ak 3 cf (aC (dV 14) (aC (dV 13) (aC (dV 12) aN)))) (dV 1))) (b6 (bH (ak 2 bh (aC (dV 14) (aC (dV 1) aN)))))) (bc (dC (.bl false))) b_) (aG (fk (df (d2 mB (ak 1 aI (aC (dV 14) aN)) (ak 1 aI (aC (dV 1) aN)))) (bc (dC (.bl false))) b_) (aG (fk (df (d2 mB (a9 0 (fc (dA bB (aC (dC (.int 4)) (aC (dC (.int 8)) aN)))) bw (ak 2 cb (aC (dV 15) (aC (dV 0) aN)))) (a9 0 (fc (dA bB (aC (dC (.int 4)) (aC (dC (.int 8)) aN)))) bw (ak 2 cb (aC (dV 2) (aC (dV 0) aN)))))) (bc (dC (.bl false))) b_) (fk (df (d2 mB (ak 2 aR (aC (dV 14) (aC (ak 3 cf (aC (dV 6) (aC (dV 12) (aC (dV 13) aN)))) aN))) (dV 7))) (bc (dC (.bl false))) b_))))))) ρ))
def kB:DS:=(cx 15 (ak 1 aI (aC (dV 1) aN)))
def kC:DS:=(fk (kE (df (d2 mB (ak 1 aI (aC (dV 15) aN)) (dV 15))) (kE (b6 (bH (ak 2 bh (aC (dV 15) (aC (dV 1) aN))))) (df (d2 mB (d2 gE (d2 a_ (dV 15) (dC (.int 0))) (dC (.int 0))) (dC (.str "a")))))) (bc (dC (.bl false))) b_)
def kD:DS:=(bc (dE (d2 mz (ak 2 bh (aC (dV 1) (aC (dV 6) aN))) (d2 mz (ak 1 aI (aC (dV 6) aN)) (dV 15))) (ak 2 bh (aC (dV 6) (aC (dV 6) aN)))))
def lC:DS:=(aG mf (aG mh (aG mi (aG mj (aG ml (aG mm (aG mn (aG mq (aG mr (aG mw (aG kx (aG ky (aG kz (aG kA (aG kB (aG kC kD))))))))))))))))
def iB:List D→M D:=bU 16 lC
structure Bl (K:W.Frag) (mg:Str→Option Value) (base:Heap) (cv:Nat→Value) (cA:Nat→Addr) (Cp:Addr):Prop where
 len:mg "len"=none
 isinstance:mg "isinstance"=none
 all:mg "all"=none
 abs:mg "abs"=none
 max:mg "max"=none
 min:mg "min"=none
 range:mg "range"=none
 str:mg "str"=none
 int:mg "int"=none
 bool:mg "bool"=none
 tuple:mg "tuple"=none
 set:mg "set"=none
 sorted:mg "sorted"=none
 LETTERS:∃t,mg "LETTERS"=some (.str "abcdef" t)
 MOST_ROWS:∃t,mg "MOST_ROWS"=some (.int 8 t)
 MOST_COLUMNS:∃t,mg "MOST_COLUMNS"=some (.int 8 t)
section
variable{P:Program}{w:World}{K:W.Frag}{mg:Str→Option Value}{base:Heap}{cv:Nat→Value}{cA:Nat→Addr}{Cp:Addr}{f:Addr}
abbrev jm:Stmt:=top 10
def n4:List Str:=["thing"]
def oy:List Str:=["thing"]
theorem vf:FnScope n4 oy (af jm):=⟨rfl,rfl,rfl,by decide+kernel,rfl,by decide+kernel,by decide+kernel⟩
theorem uQ(B:Bl K mg base cv cA Cp)(T:bq K mg "is_whole" jm f):ai P w K mg base cv 1 "is_whole" 1 (bj):=
 ay (N:=n4) (ps:=oy) T vf (fun _ _ _ _ _ _ us hl=>match us,hl with | [_],_=>rfl) fun bg A outer s H E hr=>
  (ao (ax (oC (kY rfl B.isinstance rfl (aa (ab (pv 0)) (aa (qU rfl B.int rfl) ae))) (sF (GS (kY rfl B.isinstance rfl (aa (ab (pv 0)) (aa (qU rfl B.bool rfl) ae))))))))
abbrev ib:Stmt:=top 11
def lO:List Str:=["thing"]
def lX:List Str:=["thing"]
theorem sT:FnScope lO lX (af ib):=⟨rfl,rfl,rfl,by decide+kernel,rfl,by decide+kernel,by decide+kernel⟩
theorem sm(B:Bl K mg base cv cA Cp)(T:bq K mg "is_letter" ib f):ai P w K mg base cv 1 "is_letter" 1 (bI):=
 ay (N:=lO) (ps:=lX) T sT (fun _ _ _ _ _ _ us hl=>match us,hl with | [_],_=>rfl) fun bg A outer s H E hr=>
  (ao (ax (oC (kY rfl B.isinstance rfl (aa (ab (pv 0)) (aa (qU rfl B.str rfl) ae))) (oC (l9 hr.units (bE rfl B.len (aa (ab (pv 0)) ae)) au) (sF (GN (ab (pv 0)) (yl rfl B.LETTERS (by decide))))))))
abbrev dz:Stmt:=top 19
def dj:List Str:=["board","row"]
def g9:List Str:=["board","row"]
theorem mJ:FnScope dj g9 (af dz):=⟨rfl,rfl,rfl,by decide+kernel,rfl,by decide+kernel,by decide+kernel⟩
theorem mE(B:Bl K mg base cv cA Cp)(T:bq K mg "cells_of_row" dz f):ai P w K mg base cv 1 "cells_of_row" 2 (bQ):=
 ay (N:=dj) (ps:=g9) T mJ (fun _ _ _ _ _ _ us hl=>match us,hl with | [_,_],_=>rfl) fun bg A outer s H E hr=>
  (ao (ax (cZ (tn:=["column"]) (n:=0) (br (N:=dj) (osc:=(af dz)) rfl rfl (by decide+kernel)) rfl rfl (gn rfl B.range (aa (bE rfl B.len (aa (bf (ab (pv 0)) au) ae)) ae)) (fun _ _ _ _ _ _ _=>cN (show List.Nodup (((["column"]:List Str))++cB ["column"] dj) by decide+kernel) rfl rfl) (fun _ _ _ _ _ _=>cF) (fun _ _ _ _ _ _=>(bY (aa (ab (pv 2)) (aa (ab (pv 0)) ae)))))))
abbrev ig:Stmt:=top 21
def lQ:List Str:=["board","cell"]
def l5:List Str:=["board","cell"]
theorem sU:FnScope lQ l5 (af ig):=⟨rfl,rfl,rfl,by decide+kernel,rfl,by decide+kernel,by decide+kernel⟩
theorem su(B:Bl K mg base cv cA Cp)(T:bq K mg "letter_of" ig f):ai P w K mg base cv 1 "letter_of" 2 (da):=
 ay (N:=lQ) (ps:=l5) T sU (fun _ _ _ _ _ _ us hl=>match us,hl with | [_,_],_=>rfl) fun bg A outer s H E hr=>
  (ao (ax (sD (bf (ab (pv 0)) (bf (ab (pv 1)) au)) (bf (ab (pv 1)) au))))
abbrev jl:Stmt:=top 22
def n0:List Str:=["one","other","ways","down","along"]
def oq:List Str:=["one","other","ways"]
theorem il:FnScope n0 oq (af jl):=⟨rfl,rfl,rfl,by decide+kernel,rfl,by decide+kernel,by decide+kernel⟩
theorem uN(B:Bl K mg base cv cA Cp)(T:bq K mg "are_next" jl f):ai P w K mg base cv 1 "are_next" 3 (c6):=
 ay (N:=n0) (ps:=oq) T il (fun _ _ _ _ _ _ us hl=>match us,hl with | [_,_,_],_=>rfl) fun bg A outer s H E hr=>
  (aq (bb il.nd rfl (by first | exact .inl rfl | exact .inr rfl) (BH rfl B.abs (aa (c8 (bf (ab (pv 0)) au) (bf (ab (pv 1)) au)) ae) rfl)) (aq (bb il.nd rfl (by first | exact .inl rfl | exact .inr rfl) (BH rfl B.abs (aa (c8 (bf (ab (pv 0)) au) (bf (ab (pv 1)) au)) ae) rfl)) (aq (bp (B3 hr.units (ab (pv 2)) au) (ao (ax (l9 hr.units (bu (ab (pv 3)) (ab (pv 4))) au))) aW) (ao (ax (l9 hr.units (wL rfl rfl B.max rfl (aa (ab (pv 3)) (aa (ab (pv 4)) ae))) au))))))
abbrev sS:Stmt:=top 24
def yc:List Str:=["things","found","thing"]
def yh:List Str:=["things"]
theorem oQ:FnScope yc yh (af sS):=⟨rfl,rfl,rfl,by decide+kernel,rfl,by decide+kernel,by decide+kernel⟩
theorem Bz(B:Bl K mg base cv cA Cp)(T:bq K mg "keyed" sS f):ai P w K mg base cv 1 "keyed" 1 (jC):=
 ay (N:=yc) (ps:=yh) T oQ (fun _ _ _ _ _ _ us hl=>match us,hl with | [_],_=>rfl) fun bg A outer s H E hr=>
  (aq (u0 oQ.nd rfl (by first | exact .inl rfl | exact .inr rfl)) (aq (dQ (c5 PassesOwn.never rfl (Ea (dr (ab (pv 0))) (BM (ab (pv 0)))) (ba oQ.nd rfl (by first | exact .inl rfl | exact .inr rfl)) cX (bT (ao (oJ hr.units (pv 1) (ab (pv 2)) d_))))) (ao (e9 (i:=1) (ax (ab (pv 1)))))))
abbrev dB:Stmt:=top 27
def dm:List Str:=["board","top","left","low","right"]
def g_:List Str:=["board","top","left","low","right"]
theorem mK:FnScope dm g_ (af dB):=⟨rfl,rfl,rfl,by decide+kernel,rfl,by decide+kernel,by decide+kernel⟩
theorem mF(B:Bl K mg base cv cA Cp)(T:bq K mg "part_between" dB f):ai P w K mg base cv 1 "part_between" 5 (bR):=
 ay (N:=dm) (ps:=g_) T mK (fun _ _ _ _ _ _ us hl=>match us,hl with | [_,_,_,_,_],_=>rfl) fun bg A outer s H E hr=>
  (ao (ax (oE rfl B.tuple rfl (aa (cZ (tn:=["row"]) (n:=0) (br (N:=dm) (osc:=(af dB)) rfl rfl (by decide+kernel)) rfl rfl (eZ (Fe (ab (pv 0)) (j6 (ab (pv 1))) (j6 (bu (ab (pv 3)) au)))) (fun _ _ _ _ _ _ _=>cN (show List.Nodup (((["row"]:List Str))++cB ["row"] dm) by decide+kernel) rfl rfl) (fun _ _ _ _ _ _=>cF) (fun _ _ _ _ _ _=>(Fe (ab (pv 0)) (j6 (ab (pv 3))) (j6 (bu (ab (pv 5)) au))))) ae))))
abbrev eA:Stmt:=top 29
def ei:List Str:=["board","names","told","row"]
def j5:List Str:=["board","names"]
theorem fB:FnScope ei j5 (af eA):=⟨rfl,rfl,rfl,by decide+kernel,rfl,by decide+kernel,by decide+kernel⟩
theorem pM(B:Bl K mg base cv cA Cp)(T:bq K mg "with_names" eA f):ai P w K mg base cv 1 "with_names" 2 (cI):=
 ay (N:=ei) (ps:=j5) T fB (fun _ _ _ _ _ _ us hl=>match us,hl with | [_,_],_=>rfl) fun bg A outer s H E hr=>
  (aq (j7 fB.nd rfl (by first | exact .inl rfl | exact .inr rfl)) (aq (dQ (c5 PassesOwn.never rfl (eZ (ab (pv 0))) (ba fB.nd rfl (by first | exact .inl rfl | exact .inr rfl)) cX (bT (ao (mU (pv 2) (sE cR (aa (cZ (tn:=["sign"]) (n:=0) (br (N:=ei) (osc:=(af eA)) rfl rfl (by decide+kernel)) rfl rfl (sG (ab (pv 3))) (fun _ _ _ _ _ _ _=>cN (show List.Nodup (((["sign"]:List Str))++cB ["sign"] ei) by decide+kernel) rfl rfl) (fun _ _ _ _ _ _=>cF) (fun _ _ _ _ _ _=>(D8 hr.units (ab (pv 2)) (ab (pv 0)) (ab (pv 0)) ⟨rfl,rfl,rfl,rfl⟩))) ae))))))) (ao (e9 (i:=2) (ax (oE rfl B.tuple rfl (aa (ab (pv 2)) ae)))))))
abbrev jo:Stmt:=top 41
def n5:List Str:=["_law_script","_law_k"]
def oz:List Str:=["_law_script","_law_k"]
theorem vg:FnScope n5 oz (af jo):=⟨rfl,rfl,rfl,by decide+kernel,rfl,by decide+kernel,by decide+kernel⟩
theorem uR(B:Bl K mg base cv cA Cp)(T:bq K mg "_law_cell" jo f):ai P w K mg base cv 1 "_law_cell" 2 (eJ):=
 ay (N:=n5) (ps:=oz) T vg (fun _ _ _ _ _ _ us hl=>match us,hl with | [_,_],_=>rfl) fun bg A outer s H E hr=>
  (aq (bp (B3 hr.units (ab (pv 0)) (oD ae)) (ao (ax (jj au (ab (pv 1))))) aW) (ao (ax (bu (GP (ab (pv 0)) (kZ (ab (pv 1)) (bE rfl B.len (aa (ab (pv 0)) ae)))) (jj au (kX (ab (pv 1)) (bE rfl B.len (aa (ab (pv 0)) ae))))))))
abbrev kf:Stmt:=top 12
def jQ:List Str:=["thing"]
def uV:List Str:=["thing"]
theorem zO:FnScope jQ uV (af kf):=⟨rfl,rfl,rfl,by decide+kernel,rfl,by decide+kernel,by decide+kernel⟩
theorem zw(B:Bl K mg base cv cA Cp)(gJ:ai P w K mg base cv 1 "is_letter" 1 bI)(T:bq K mg "is_row" kf f):ai P w K mg base cv 2 "is_row" 1 (eI):=
 ay (N:=jQ) (ps:=uV) T zO (fun _ _ _ _ _ _ us hl=>match us,hl with | [_],_=>rfl) fun bg A outer s H E hr=>
  (aq (bp (PDW.t (fg (cq (bZ (kY rfl B.isinstance rfl (aa (ab (pv 0)) (aa (qU rfl B.str rfl) ae))))) (eo (cq (B1 qJ qJ au (bE rfl B.len (aa (ab (pv 0)) ae)) (yj rfl B.MOST_COLUMNS)))))) (ao (ax d_)) aW) (ao (ax (wK rfl rfl B.all rfl (aa (cZ (tn:=["sign"]) (n:=0) (br (N:=jQ) (osc:=(af kf)) rfl rfl (by decide+kernel)) rfl rfl (sG (ab (pv 0))) (fun _ _ _ _ _ _ _=>cN (show List.Nodup (((["sign"]:List Str))++cB ["sign"] jQ) by decide+kernel) rfl rfl) (fun _ _ _ _ _ _=>cF) (fun _ _ _ _ _ _=>(aQ gJ (hr.mono (by decide)) rfl cO (aa (ab (pv 0)) ae) rfl))) ae)))))
abbrev lj:Stmt:=top 14
def qC:List Str:=["board","thing"]
def qO:List Str:=["board","thing"]
theorem wW:FnScope qC qO (af lj):=⟨rfl,rfl,rfl,by decide+kernel,rfl,by decide+kernel,by decide+kernel⟩
theorem wB(B:Bl K mg base cv cA Cp)(f9:ai P w K mg base cv 1 "is_whole" 1 bj)(T:bq K mg "is_cell" lj f):ai P w K mg base cv 2 "is_cell" 2 (iA):=
 ay (N:=qC) (ps:=qO) T wW (fun _ _ _ _ _ _ us hl=>match us,hl with | [_,_],_=>rfl) fun bg A outer s H E hr=>
  (aq (bp (PDW.t (fg (cq (bZ (kY rfl B.isinstance rfl (aa (ab (pv 1)) (aa (qU rfl B.tuple rfl) ae))))) (eo (gD hr.units (bE rfl B.len (aa (ab (pv 1)) ae)) au)))) (ao (ax d_)) aW) (aq (bp (PDW.t (fg (cq (bZ (aQ f9 (hr.mono (by decide)) rfl aO (aa (bf (ab (pv 1)) au) ae) rfl))) (eo (cq (bZ (aQ f9 (hr.mono (by decide)) rfl aO (aa (bf (ab (pv 1)) au) ae) rfl)))))) (ao (ax d_)) aW) (ao (ax (oC (BI qJ BC au (bf (ab (pv 1)) au) (bE rfl B.len (aa (ab (pv 0)) ae))) (sF (BI qJ BC au (bf (ab (pv 1)) au) (bE rfl B.len (aa (bf (ab (pv 0)) au) ae)))))))))
abbrev fq:Stmt:=top 17
def iY:List Str:=["thing"]
def i2:List Str:=["thing"]
theorem oT:FnScope iY i2 (af fq):=⟨rfl,rfl,rfl,by decide+kernel,rfl,by decide+kernel,by decide+kernel⟩
theorem oj(B:Bl K mg base cv cA Cp)(gJ:ai P w K mg base cv 1 "is_letter" 1 bI)(T:bq K mg "need_letter" fq f):ai P w K mg base cv 2 "need_letter" 1 (cV):=
 ay (N:=iY) (ps:=i2) T oT (fun _ _ _ _ _ _ us hl=>match us,hl with | [_],_=>rfl) fun bg A outer s H E hr=>
  (ao (bp (cq (bZ (aQ gJ (hr.mono (by decide)) rfl aO (aa (ab (pv 0)) ae) rfl))) (ao fU) aW))
abbrev ik:Stmt:=top 18
def lS:List Str:=["thing"]
def l7:List Str:=["thing"]
theorem sW:FnScope lS l7 (af ik):=⟨rfl,rfl,rfl,by decide+kernel,rfl,by decide+kernel,by decide+kernel⟩
theorem sx(B:Bl K mg base cv cA Cp)(f9:ai P w K mg base cv 1 "is_whole" 1 bj)(T:bq K mg "need_ways" ik f):ai P w K mg base cv 2 "need_ways" 1 (eW):=
 ay (N:=lS) (ps:=l7) T sW (fun _ _ _ _ _ _ us hl=>match us,hl with | [_],_=>rfl) fun bg A outer s H E hr=>
  (ao (bp (PDW.t (fg (cq (bZ (aQ f9 (hr.mono (by decide)) rfl aO (aa (ab (pv 0)) ae) rfl))) (eo (zL (ab (pv 0)) (bY (aa au (aa au ae))))))) (ao fU) aW))
abbrev h9:Stmt:=top 20
def lN:List Str:=["board","found","row"]
def lW:List Str:=["board"]
theorem gy:FnScope lN lW (af h9):=⟨rfl,rfl,rfl,by decide+kernel,rfl,by decide+kernel,by decide+kernel⟩
theorem sk(B:Bl K mg base cv cA Cp)(m9:ai P w K mg base cv 1 "cells_of_row" 2 bQ)(T:bq K mg "all_cells" h9 f):ai P w K mg base cv 2 "all_cells" 1 (cz):=
 ay (N:=lN) (ps:=lW) T gy (fun _ _ _ _ _ _ us hl=>match us,hl with | [_],_=>rfl) fun bg A outer s H E hr=>
  (aq (j7 gy.nd rfl (by first | exact .inl rfl | exact .inr rfl)) (aq (dQ (c5 PassesOwn.never rfl (gn rfl B.range (aa (bE rfl B.len (aa (ab (pv 0)) ae)) ae)) (ba gy.nd rfl (by first | exact .inl rfl | exact .inr rfl)) cX (bT (ao (Ej (pv 1) (aQ m9 (hr.mono (by decide)) rfl cO (aa (ab (pv 0)) (aa (ab (pv 2)) ae)) rfl)))))) (ao (e9 (i:=1) (ax (ab (pv 1)))))))
abbrev gu:Stmt:=top 23
def jS:List Str:=["board","cell","ways","found","row","column"]
def j2:List Str:=["board","cell","ways"]
theorem dR:FnScope jS j2 (af gu):=⟨rfl,rfl,rfl,by decide+kernel,rfl,by decide+kernel,by decide+kernel⟩
theorem pJ(B:Bl K mg base cv cA Cp)(vL:ai P w K mg base cv 1 "are_next" 3 c6)(T:bq K mg "next_cells" gu f):ai P w K mg base cv 2 "next_cells" 3 (cH):=
 ay (N:=jS) (ps:=j2) T dR (fun _ _ _ _ _ _ us hl=>match us,hl with | [_,_,_],_=>rfl) fun bg A outer s H E hr=>
  (aq (j7 dR.nd rfl (by first | exact .inl rfl | exact .inr rfl)) (aq (dQ (c5 PassesOwn.never rfl (oF rfl B.range (aa (wL rfl rfl B.max rfl (aa (c8 (bf (ab (pv 1)) au) au) (aa au ae))) (aa (BL rfl rfl B.min rfl (aa (bu (bf (ab (pv 1)) au) au) (aa (bE rfl B.len (aa (ab (pv 0)) ae)) ae))) ae))) (ba dR.nd rfl (by first | exact .inl rfl | exact .inr rfl)) cX (bT (ao (c5 PassesOwn.never rfl (oF rfl B.range (aa (wL rfl rfl B.max rfl (aa (c8 (bf (ab (pv 1)) au) au) (aa au ae))) (aa (BL rfl rfl B.min rfl (aa (bu (bf (ab (pv 1)) au) au) (aa (bE rfl B.len (aa (bf (ab (pv 0)) au) ae)) ae))) ae))) (ba dR.nd rfl (by first | exact .inl rfl | exact .inr rfl)) cX (bT (ao (bp (bZ (aQ vL (hr.mono (by decide)) rfl cO (aa (ab (pv 1)) (aa (bY (aa (ab (pv 4)) (aa (ab (pv 5)) ae))) (aa (ab (pv 2)) ae))) rfl)) (ao (mU (pv 3) (bY (aa (ab (pv 4)) (aa (ab (pv 5)) ae))))) aW)))))))) (ao (e9 (i:=3) (ax (ab (pv 3)))))))
abbrev lq:Stmt:=top 28
def qD:List Str:=["board","part","cell","low","right"]
def qP:List Str:=["board","part","cell"]
theorem jq:FnScope qD qP (af lq):=⟨rfl,rfl,rfl,by decide+kernel,rfl,by decide+kernel,by decide+kernel⟩
theorem wC(B:Bl K mg base cv cA Cp)(eF:ai P w K mg base cv 1 "part_between" 5 bR)(T:bq K mg "lies_at" lq f):ai P w K mg base cv 2 "lies_at" 3 (eB):=
 ay (N:=qD) (ps:=qP) T jq (fun _ _ _ _ _ _ us hl=>match us,hl with | [_,_,_],_=>rfl) fun bg A outer s H E hr=>
  (aq (bb jq.nd rfl (by first | exact .inl rfl | exact .inr rfl) (c8 (bu (bf (ab (pv 2)) au) (bE rfl B.len (aa (ab (pv 1)) ae))) au)) (aq (bb jq.nd rfl (by first | exact .inl rfl | exact .inr rfl) (c8 (bu (bf (ab (pv 2)) au) (bE rfl B.len (aa (bf (ab (pv 1)) au) ae))) au)) (ao (ax (l9 hr.units (aQ eF (hr.mono (by decide)) rfl aO (aa (ab (pv 0)) (aa (bf (ab (pv 2)) au) (aa (bf (ab (pv 2)) au) (aa (ab (pv 3)) (aa (ab (pv 4)) ae))))) rfl) (ab (pv 1)))))))
abbrev ie:Stmt:=top 42
def lP:List Str:=["_law_script","_law_k","_law_many","_law_cell_here"]
def lZ:List Str:=["_law_script","_law_k","_law_many"]
theorem gz:FnScope lP lZ (af ie):=⟨rfl,rfl,rfl,by decide+kernel,rfl,by decide+kernel,by decide+kernel⟩
theorem sr(B:Bl K mg base cv cA Cp)(vN:ai P w K mg base cv 1 "_law_cell" 2 eJ)(T:bq K mg "_law_drawn" ie f):ai P w K mg base cv 2 "_law_drawn" 3 (aA):=
 ay (N:=lP) (ps:=lZ) T gz (fun _ _ _ _ _ _ us hl=>match us,hl with | [_,_,_],_=>rfl) fun bg A outer s H E hr=>
  (aq (bb gz.nd rfl (by first | exact .inl rfl | exact .inr rfl) (kZ (bu (jj (kZ (aQ vN (hr.mono (by decide)) rfl aO (aa (ab (pv 0)) (aa (ab (pv 1)) ae)) rfl) au) au) (jj au (bu (ab (pv 1)) au))) au)) (aq (bb gz.nd rfl (by first | exact .inl rfl | exact .inr rfl) (kZ (bu (jj (ab (pv 3)) (ab (pv 3))) (kX (ab (pv 3)) au)) au)) (ao (ax (kZ (kX (kZ (bu (jj (ab (pv 3)) (ab (pv 3))) (kX (ab (pv 3)) au)) au) au) (ab (pv 2)))))))
abbrev eQ:Stmt:=top 13
def dJ:List Str:=["thing"]
def ou:List Str:=["thing"]
theorem ve:FnScope dJ ou (af eQ):=⟨rfl,rfl,rfl,by decide+kernel,rfl,by decide+kernel,by decide+kernel⟩
theorem uP(B:Bl K mg base cv cA Cp)(Ah:ai P w K mg base cv 2 "is_row" 1 eI)(T:bq K mg "is_board" eQ f):ai P w K mg base cv 3 "is_board" 1 (gg):=
 ay (N:=dJ) (ps:=ou) T ve (fun _ _ _ _ _ _ us hl=>match us,hl with | [_],_=>rfl) fun bg A outer s H E hr=>
  (aq (bp (PDW.t (fg (cq (bZ (kY rfl B.isinstance rfl (aa (ab (pv 0)) (aa (qU rfl B.tuple rfl) ae))))) (eo (cq (B1 qJ qJ au (bE rfl B.len (aa (ab (pv 0)) ae)) (yj rfl B.MOST_ROWS)))))) (ao (ax d_)) aW) (aq (bp (cq (bZ (wK rfl rfl B.all rfl (aa (cZ (tn:=["row"]) (n:=0) (br (N:=dJ) (osc:=(af eQ)) rfl rfl (by decide+kernel)) rfl rfl (eZ (ab (pv 0))) (fun _ _ _ _ _ _ _=>cN (show List.Nodup (((["row"]:List Str))++cB ["row"] dJ) by decide+kernel) rfl rfl) (fun _ _ _ _ _ _=>cF) (fun _ _ _ _ _ _=>(aQ Ah (hr.mono (by decide)) rfl cO (aa (ab (pv 0)) ae) rfl))) ae)))) (ao (ax d_)) aW) (ao (ax (wK rfl rfl B.all rfl (aa (cZ (tn:=["row"]) (n:=0) (br (N:=dJ) (osc:=(af eQ)) rfl rfl (by decide+kernel)) rfl rfl (eZ (ab (pv 0))) (fun _ _ _ _ _ _ _=>cN (show List.Nodup (((["row"]:List Str))++cB ["row"] dJ) by decide+kernel) rfl rfl) (fun _ _ _ _ _ _=>cF) (fun _ _ _ _ _ _=>(l9 hr.units (bE rfl B.len (aa (ab (pv 0)) ae)) (bE rfl B.len (aa (bf (ab (pv 1)) au) ae))))) ae))))))
abbrev ij:Stmt:=top 16
def lR:List Str:=["board","thing"]
def l6:List Str:=["board","thing"]
theorem sV:FnScope lR l6 (af ij):=⟨rfl,rfl,rfl,by decide+kernel,rfl,by decide+kernel,by decide+kernel⟩
theorem sv(B:Bl K mg base cv cA Cp)(yH:ai P w K mg base cv 2 "is_cell" 2 iA)(T:bq K mg "need_cell" ij f):ai P w K mg base cv 3 "need_cell" 2 (dU):=
 ay (N:=lR) (ps:=l6) T sV (fun _ _ _ _ _ _ us hl=>match us,hl with | [_,_],_=>rfl) fun bg A outer s H E hr=>
  (ao (bp (cq (bZ (aQ yH (hr.mono (by decide)) rfl aO (aa (ab (pv 0)) (aa (ab (pv 1)) ae)) rfl))) (ao fU) aW))
abbrev ez:Stmt:=top 36
def eh:List Str:=["board","cell","ways","letter"]
def jZ:List Str:=["board","cell","ways"]
theorem i3:FnScope eh jZ (af ez):=⟨rfl,rfl,rfl,by decide+kernel,rfl,by decide+kernel,by decide+kernel⟩
theorem pH(B:Bl K mg base cv cA Cp)(lE:ai P w K mg base cv 1 "letter_of" 2 da)(rH:ai P w K mg base cv 2 "next_cells" 3 cH)(T:bq K mg "like_cells" ez f):ai P w K mg base cv 3 "like_cells" 3 (bV):=
 ay (N:=eh) (ps:=jZ) T i3 (fun _ _ _ _ _ _ us hl=>match us,hl with | [_,_,_],_=>rfl) fun bg A outer s H E hr=>
  (aq (bb i3.nd rfl (by first | exact .inl rfl | exact .inr rfl) (aQ lE (hr.mono (by decide)) rfl aO (aa (ab (pv 0)) (aa (ab (pv 1)) ae)) rfl)) (ao (ax (cZ (tn:=["near"]) (n:=0) (br (N:=eh) (osc:=(af ez)) rfl rfl (by decide+kernel)) rfl rfl (dr (aQ rH (hr.mono (by decide)) rfl aO (aa (ab (pv 0)) (aa (ab (pv 1)) (aa (ab (pv 2)) ae))) rfl)) (fun _ _ _ _ _ _ _=>cN (show List.Nodup (((["near"]:List Str))++cB ["near"] eh) by decide+kernel) rfl rfl) (fun _ _ _ _ _ _=>(o6 (B3 hr.units (aQ lE (hr.mono (by decide)) rfl cO (aa (ab (pv 1)) (aa (ab (pv 0)) ae)) rfl) (ab (pv 4))))) (fun _ _ _ _ _ _=>(ab (pv 0)))))))
abbrev e_:Stmt:=top 43
def eY:List Str:=["_law_script","_law_at","_law_most","_law_rows","_law_wide","_law_alphabet","_law_found","_law_row","_law_signs"]
def lY:List Str:=["_law_script","_law_at","_law_most"]
theorem bK:FnScope eY lY (af e_):=⟨rfl,rfl,rfl,by decide+kernel,rfl,by decide+kernel,by decide+kernel⟩
set_option maxHeartbeats 4000000 in
theorem sq(B:Bl K mg base cv cA Cp)(aU:ai P w K mg base cv 2 "_law_drawn" 3 aA)(T:bq K mg "_law_board" e_ f):ai P w K mg base cv 3 "_law_board" 3 (c_):=
 ay (N:=eY) (ps:=lY) T bK (fun _ _ _ _ _ _ us hl=>match us,hl with | [_,_,_],_=>rfl) fun bg A outer s H E hr=>
  (aq (bb bK.nd rfl (by first | exact .inl rfl | exact .inr rfl) (bu au (aQ aU (hr.mono (by decide)) rfl aO (aa (ab (pv 0)) (aa (ab (pv 1)) (aa (ab (pv 2)) ae))) rfl))) (aq (bb bK.nd rfl (by first | exact .inl rfl | exact .inr rfl) (bu au (aQ aU (hr.mono (by decide)) rfl aO (aa (ab (pv 0)) (aa (bu (ab (pv 1)) au) (aa (ab (pv 2)) ae))) rfl))) (aq (bb bK.nd rfl (by first | exact .inl rfl | exact .inr rfl) (GO (oD (aa cR (aa cR (aa cR (aa cR ae))))) (aQ aU (hr.mono (by decide)) rfl aO (aa (ab (pv 0)) (aa (bu (ab (pv 1)) au) (aa au ae))) rfl))) (aq (bb bK.nd rfl (by first | exact .inl rfl | exact .inr rfl) (bY ae)) (aq (dQ (c5 PassesOwn.never rfl (gn rfl B.range (aa (ab (pv 3)) ae)) (ba bK.nd rfl (by first | exact .inl rfl | exact .inr rfl)) cX (bT (aq (l_ (tn:=["_law_k"]) (n:=0) bK.nd rfl (by first | exact .inl rfl | exact .inr rfl) (br (N:=eY) (osc:=(af e_)) rfl rfl (by decide+kernel)) rfl rfl (gn rfl B.range (aa (ab (pv 4)) ae)) (fun _ _ _ _ _ _ _=>cN (show List.Nodup (((["_law_k"]:List Str))++cB ["_law_k"] eY) by decide+kernel) rfl rfl) (fun _ _ _ _ _ _=>cF) (fun _ _ _ _ _ _=>(sD (ab (pv 6)) (aQ aU (hr.mono (by decide)) rfl cO (aa (ab (pv 1)) (aa (bu (bu (bu (ab (pv 2)) au) (jj au (ab (pv 8)))) (ab (pv 0))) (aa (bE rfl B.len (aa (ab (pv 6)) ae)) ae))) rfl)))) (ao (bb bK.nd rfl (by first | exact .inl rfl | exact .inr rfl) (D7 (ab (pv 6)) (bY (aa (sE cR (aa (ab (pv 8)) ae)) ae))))))))) (ao (ax (ab (pv 6)))))))))
abbrev fo:Stmt:=top 44
def iX:List Str:=["_law_script","_law_at","_law_board_here"]
def i1:List Str:=["_law_script","_law_at","_law_board_here"]
theorem oR:FnScope iX i1 (af fo):=⟨rfl,rfl,rfl,by decide+kernel,rfl,by decide+kernel,by decide+kernel⟩
theorem og(B:Bl K mg base cv cA Cp)(aU:ai P w K mg base cv 2 "_law_drawn" 3 aA)(T:bq K mg "_law_cell_in" fo f):ai P w K mg base cv 3 "_law_cell_in" 3 (cU):=
 ay (N:=iX) (ps:=i1) T oR (fun _ _ _ _ _ _ us hl=>match us,hl with | [_,_,_],_=>rfl) fun bg A outer s H E hr=>
  (ao (ax (bY (aa (aQ aU (hr.mono (by decide)) rfl aO (aa (ab (pv 0)) (aa (ab (pv 1)) (aa (bE rfl B.len (aa (ab (pv 2)) ae)) ae))) rfl) (aa (aQ aU (hr.mono (by decide)) rfl aO (aa (ab (pv 0)) (aa (bu (ab (pv 1)) au) (aa (bE rfl B.len (aa (bf (ab (pv 2)) au) ae)) ae))) rfl) ae)))))
abbrev gr:Stmt:=top 15
def jR:List Str:=["thing"]
def j1:List Str:=["thing"]
theorem pN:FnScope jR j1 (af gr):=⟨rfl,rfl,rfl,by decide+kernel,rfl,by decide+kernel,by decide+kernel⟩
theorem pI(B:Bl K mg base cv cA Cp)(vM:ai P w K mg base cv 3 "is_board" 1 gg)(T:bq K mg "need_board" gr f):ai P w K mg base cv 4 "need_board" 1 (aM):=
 ay (N:=jR) (ps:=j1) T pN (fun _ _ _ _ _ _ us hl=>match us,hl with | [_],_=>rfl) fun bg A outer s H E hr=>
  (ao (bp (cq (bZ (aQ vM (hr.mono (by decide)) rfl aO (aa (ab (pv 0)) ae) rfl))) (ao fU) aW))
abbrev gx:Stmt:=top 37
def jU:List Str:=["board","start","ways","back","ring","further","cell","near"]
def j4:List Str:=["board","start","ways"]
theorem bO:FnScope jU j4 (af gx):=⟨rfl,rfl,rfl,by decide+kernel,rfl,by decide+kernel,by decide+kernel⟩
theorem pL(B:Bl K mg base cv cA Cp)(rG:ai P w K mg base cv 3 "like_cells" 3 bV)(T:bq K mg "steps_back" gx f):ai P w K mg base cv 4 "steps_back" 3 (bW):=
 ay (N:=jU) (ps:=j4) T bO (fun _ _ _ _ _ _ us hl=>match us,hl with | [_,_,_],_=>rfl) fun bg A outer s H E hr=>
  (aq (BY bO.nd rfl (by first | exact .inl rfl | exact .inr rfl) (zG hr.units (ab (pv 1)) GR)) (aq (bb bO.nd rfl (by first | exact .inl rfl | exact .inr rfl) (oD (aa (ab (pv 1)) ae))) (aq (dQ (zK PassesOwn.never (bZ (ab (pv 4))) (bT (aq (j7 bO.nd rfl (by first | exact .inl rfl | exact .inr rfl)) (aq (c5 PassesOwn.never rfl (dr (ab (pv 4))) (ba bO.nd rfl (by first | exact .inl rfl | exact .inr rfl)) cX (bT (ao (c5 PassesOwn.never rfl (dr (aQ rG (hr.mono (by decide)) rfl cO (aa (ab (pv 0)) (aa (ab (pv 6)) (aa (ab (pv 2)) ae))) rfl)) (ba bO.nd rfl (by first | exact .inl rfl | exact .inr rfl)) cX (bT (ao (bp (wN (k8 hr.units (ab (pv 7)) (ab (pv 3)))) (aq (oJ hr.units (pv 3) (ab (pv 7)) (ab (pv 6))) (ao (mU (pv 5) (ab (pv 7))))) aW))))))) (ao (e9 (i:=5) (bb bO.nd rfl (by first | exact .inl rfl | exact .inr rfl) (ab (pv 5)))))))))) (ao (e9 (i:=3) (ax (ab (pv 3))))))))
abbrev gq:Stmt:=top 25
def gm:List Str:=["board"]
def oA:List Str:=["board"]
theorem vh:FnScope gm oA (af gq):=⟨rfl,rfl,rfl,by decide+kernel,rfl,by decide+kernel,by decide+kernel⟩
theorem uS(B:Bl K mg base cv cA Cp)(a5:ai P w K mg base cv 4 "need_board" 1 aM)(T:bq K mg "mirrored" gq f):ai P w K mg base cv 5 "mirrored" 1 (dG):=
 ay (N:=gm) (ps:=oA) T vh (fun _ _ _ _ _ _ us hl=>match us,hl with | [_],_=>rfl) fun bg A outer s H E hr=>
  (aq (c0 (aQ a5 (hr.mono (by decide)) rfl aO (aa (ab (pv 0)) ae) rfl)) (ao (ax (oE rfl B.tuple rfl (aa (cZ (tn:=["row"]) (n:=0) (br (N:=gm) (osc:=(af gq)) rfl rfl (by decide+kernel)) rfl rfl (eZ (ab (pv 0))) (fun _ _ _ _ _ _ _=>cN (show List.Nodup (((["row"]:List Str))++cB ["row"] gm) by decide+kernel) rfl rfl) (fun _ _ _ _ _ _=>cF) (fun _ _ _ _ _ _=>(GV (ab (pv 0)) (GQ au)))) ae)))))
abbrev lh:Stmt:=top 30
def qB:List Str:=["board","top","left","low","right"]
def qN:List Str:=["board","top","left","low","right"]
theorem wV:FnScope qB qN (af lh):=⟨rfl,rfl,rfl,by decide+kernel,rfl,by decide+kernel,by decide+kernel⟩
theorem wA(B:Bl K mg base cv cA Cp)(a5:ai P w K mg base cv 4 "need_board" 1 aM)(lF:ai P w K mg base cv 3 "need_cell" 2 dU)(eF:ai P w K mg base cv 1 "part_between" 5 bR)(T:bq K mg "cut_out" lh f):ai P w K mg base cv 5 "cut_out" 5 (bF):=
 ay (N:=qB) (ps:=qN) T wV (fun _ _ _ _ _ _ us hl=>match us,hl with | [_,_,_,_,_],_=>rfl) fun bg A outer s H E hr=>
  (aq (c0 (aQ a5 (hr.mono (by decide)) rfl aO (aa (ab (pv 0)) ae) rfl)) (aq (c0 (aQ lF (hr.mono (by decide)) rfl aO (aa (ab (pv 0)) (aa (bY (aa (ab (pv 1)) (aa (ab (pv 2)) ae))) ae)) rfl)) (aq (c0 (aQ lF (hr.mono (by decide)) rfl aO (aa (ab (pv 0)) (aa (bY (aa (ab (pv 3)) (aa (ab (pv 4)) ae))) ae)) rfl)) (aq (bp (PDW.t (fg (Fg (ab (pv 3)) (ab (pv 1))) (eo (Fg (ab (pv 4)) (ab (pv 2)))))) (ao fU) aW) (ao (ax (aQ eF (hr.mono (by decide)) rfl aO (aa (ab (pv 0)) (aa (ab (pv 1)) (aa (ab (pv 2)) (aa (ab (pv 3)) (aa (ab (pv 4)) ae))))) rfl)))))))
abbrev gp:Stmt:=top 31
def gk:List Str:=["board","part"]
def ot:List Str:=["board","part"]
theorem vc:FnScope gk ot (af gp):=⟨rfl,rfl,rfl,by decide+kernel,rfl,by decide+kernel,by decide+kernel⟩
theorem uO(B:Bl K mg base cv cA Cp)(a5:ai P w K mg base cv 4 "need_board" 1 aM)(gH:ai P w K mg base cv 2 "all_cells" 1 cz)(yI:ai P w K mg base cv 2 "lies_at" 3 eB)(T:bq K mg "found_in" gp f):ai P w K mg base cv 5 "found_in" 2 (aR):=
 ay (N:=gk) (ps:=ot) T vc (fun _ _ _ _ _ _ us hl=>match us,hl with | [_,_],_=>rfl) fun bg A outer s H E hr=>
  (aq (c0 (aQ a5 (hr.mono (by decide)) rfl aO (aa (ab (pv 0)) ae) rfl)) (aq (c0 (aQ a5 (hr.mono (by decide)) rfl aO (aa (ab (pv 1)) ae) rfl)) (ao (ax (cZ (tn:=["cell"]) (n:=0) (br (N:=gk) (osc:=(af gp)) rfl rfl (by decide+kernel)) rfl rfl (dr (aQ gH (hr.mono (by decide)) rfl aO (aa (ab (pv 0)) ae) rfl)) (fun _ _ _ _ _ _ _=>cN (show List.Nodup (((["cell"]:List Str))++cB ["cell"] gk) by decide+kernel) rfl rfl) (fun _ _ _ _ _ _=>(o6 (bZ (aQ yI (hr.mono (by decide)) rfl cO (aa (ab (pv 1)) (aa (ab (pv 2)) (aa (ab (pv 0)) ae))) rfl)))) (fun _ _ _ _ _ _=>(ab (pv 0))))))))
abbrev gw:Stmt:=top 32
def jT:List Str:=["board","names","sign"]
def j3:List Str:=["board"]
theorem ft:FnScope jT j3 (af gw):=⟨rfl,rfl,rfl,by decide+kernel,rfl,by decide+kernel,by decide+kernel⟩
theorem pK(B:Bl K mg base cv cA Cp)(a5:ai P w K mg base cv 4 "need_board" 1 aM)(gb:ai P w K mg base cv 1 "with_names" 2 cI)(T:bq K mg "relettered" gw f):ai P w K mg base cv 5 "relettered" 1 (aI):=
 ay (N:=jT) (ps:=j3) T ft (fun _ _ _ _ _ _ us hl=>match us,hl with | [_],_=>rfl) fun bg A outer s H E hr=>
  (aq (c0 (aQ a5 (hr.mono (by decide)) rfl aO (aa (ab (pv 0)) ae) rfl)) (aq (BZ ft.nd rfl (by first | exact .inl rfl | exact .inr rfl)) (aq (dQ (c5 PassesOwn.never rfl (sG (sE cR (aa (ab (pv 0)) ae))) (ba ft.nd rfl (by first | exact .inl rfl | exact .inr rfl)) cX (bT (ao (bp (wN (k8 hr.units (ab (pv 2)) (ab (pv 1)))) (ao (oJ hr.units (pv 1) (ab (pv 2)) (Jt (sD (yl rfl B.LETTERS (by decide)) (D9 rfl B.len (aa (ab (pv 1)) ae)))))) aW))))) (ao (e9 (i:=1) (ax (aQ gb (hr.mono (by decide)) rfl aO (aa (ab (pv 0)) (aa (ab (pv 1)) ae)) rfl)))))))
abbrev lu:Stmt:=top 34
def qF:List Str:=["board","one","other"]
def qR:List Str:=["board","one","other"]
theorem wY:FnScope qF qR (af lu):=⟨rfl,rfl,rfl,by decide+kernel,rfl,by decide+kernel,by decide+kernel⟩
theorem wF(B:Bl K mg base cv cA Cp)(a5:ai P w K mg base cv 4 "need_board" 1 aM)(iR:ai P w K mg base cv 2 "need_letter" 1 cV)(gb:ai P w K mg base cv 1 "with_names" 2 cI)(T:bq K mg "swapped" lu f):ai P w K mg base cv 5 "swapped" 3 (cf):=
 ay (N:=qF) (ps:=qR) T wY (fun _ _ _ _ _ _ us hl=>match us,hl with | [_,_,_],_=>rfl) fun bg A outer s H E hr=>
  (aq (c0 (aQ a5 (hr.mono (by decide)) rfl aO (aa (ab (pv 0)) ae) rfl)) (aq (c0 (aQ iR (hr.mono (by decide)) rfl aO (aa (ab (pv 1)) ae) rfl)) (aq (c0 (aQ iR (hr.mono (by decide)) rfl aO (aa (ab (pv 2)) ae) rfl)) (ao (ax (aQ gb (hr.mono (by decide)) rfl aO (aa (ab (pv 0)) (aa (BK hr.units (ab (pv 1)) (ab (pv 2)) (ab (pv 2)) (ab (pv 1))) ae)) rfl))))))
abbrev fm:Stmt:=top 38
def iW:List Str:=["board","ways","found","seen","cell","patch"]
def iZ:List Str:=["board","ways"]
theorem cE:FnScope iW iZ (af fm):=⟨rfl,rfl,rfl,by decide+kernel,rfl,by decide+kernel,by decide+kernel⟩
theorem oe(B:Bl K mg base cv cA Cp)(gH:ai P w K mg base cv 2 "all_cells" 1 cz)(rJ:ai P w K mg base cv 4 "steps_back" 3 bW)(C8:ai P w K mg base cv 1 "keyed" 1 jC)(T:bq K mg "all_patches" fm f):ai P w K mg base cv 5 "all_patches" 2 (dO):=
 ay (N:=iW) (ps:=iZ) T cE (fun _ _ _ _ _ _ us hl=>match us,hl with | [_,_],_=>rfl) fun bg A outer s H E hr=>
  (aq (j7 cE.nd rfl (by first | exact .inl rfl | exact .inr rfl)) (aq (u0 cE.nd rfl (by first | exact .inl rfl | exact .inr rfl)) (aq (dQ (c5 PassesOwn.never rfl (dr (aQ gH (hr.mono (by decide)) rfl cO (aa (ab (pv 0)) ae) rfl)) (ba cE.nd rfl (by first | exact .inl rfl | exact .inr rfl)) cX (bT (ao (bp (wN (k8 hr.units (ab (pv 4)) (ab (pv 3)))) (aq (bb cE.nd rfl (by first | exact .inl rfl | exact .inr rfl) (D_ rfl rfl B.sorted rfl (aa (aQ rJ (hr.mono (by decide)) rfl cO (aa (ab (pv 0)) (aa (ab (pv 4)) (aa (ab (pv 1)) ae))) rfl) ae))) (aq (mU (pv 2) (ab (pv 5))) (ao (Ek hr.units (pv 3) (aQ C8 (hr.mono (by decide)) rfl cO (aa (ab (pv 5)) ae) rfl) ⟨rfl,rfl,rfl,rfl⟩)))) aW))))) (ao (e9 (i:=2) (ax (ab (pv 2))))))))
abbrev jk:Stmt:=top 33
def nZ:List Str:=["one","other"]
def om:List Str:=["one","other"]
theorem vb:FnScope nZ om (af jk):=⟨rfl,rfl,rfl,by decide+kernel,rfl,by decide+kernel,by decide+kernel⟩
theorem uM(B:Bl K mg base cv cA Cp)(aL:ai P w K mg base cv 5 "relettered" 1 aI)(T:bq K mg "are_like" jk f):ai P w K mg base cv 6 "are_like" 2 (bh):=
 ay (N:=nZ) (ps:=om) T vb (fun _ _ _ _ _ _ us hl=>match us,hl with | [_,_],_=>rfl) fun bg A outer s H E hr=>
  (ao (ax (l9 hr.units (aQ aL (hr.mono (by decide)) rfl aO (aa (ab (pv 0)) ae) rfl) (aQ aL (hr.mono (by decide)) rfl aO (aa (ab (pv 1)) ae) rfl))))
abbrev lr:Stmt:=top 39
def qE:List Str:=["board","ways"]
def qQ:List Str:=["board","ways"]
theorem wX:FnScope qE qQ (af lr):=⟨rfl,rfl,rfl,by decide+kernel,rfl,by decide+kernel,by decide+kernel⟩
theorem wD(B:Bl K mg base cv cA Cp)(a5:ai P w K mg base cv 4 "need_board" 1 aM)(tR:ai P w K mg base cv 2 "need_ways" 1 eW)(pw:ai P w K mg base cv 5 "all_patches" 2 dO)(T:bq K mg "patches" lr f):ai P w K mg base cv 6 "patches" 2 (cb):=
 ay (N:=qE) (ps:=qQ) T wX (fun _ _ _ _ _ _ us hl=>match us,hl with | [_,_],_=>rfl) fun bg A outer s H E hr=>
  (aq (c0 (aQ a5 (hr.mono (by decide)) rfl aO (aa (ab (pv 0)) ae) rfl)) (aq (c0 (aQ tR (hr.mono (by decide)) rfl aO (aa (ab (pv 1)) ae) rfl)) (ao (ax (aQ pw (hr.mono (by decide)) rfl aO (aa (ab (pv 0)) (aa (ab (pv 1)) ae)) rfl)))))
abbrev ag:Stmt:=top 45
def aB:List Str:=["_law_script","_law_board_here","_law_top","_law_left","_law_low","_law_right","_law_part","_law_some","_law_row","_law_column","_law_back","_law_inner","_law_one","_law_other","_law_new","_law_plain"]
def kU:List Str:=["_law_script"]
theorem aT:FnScope aB kU (af ag):=⟨rfl,rfl,rfl,by decide+kernel,rfl,by decide+kernel,by decide+kernel⟩
set_option maxHeartbeats 4000000 in
theorem sY(B:Bl K mg base cv cA Cp)(gK:ai P w K mg base cv 3 "_law_board" 3 c_){bg:Value}{A:Around}{outer:List Env}{s:Shared}{H:Hp}{E:XK}(hr:Room 6 (A.deeper (envOfC "law" (af ag) s.heap.objs.size f bg))):
 Box (fE (cT (iM P w cv) P w K mg base aB "law" (af ag) f bg A outer s H E) (fun n H'=>E (cv n) none H') ((aP ag).getD 0 (.Pass ⟨0,0,0,0⟩)) mf):=
 ⟨(bb aT.nd rfl (by first | exact .inl rfl | exact .inr rfl) (aQ gK (hr.mono (by decide)) rfl aO (aa (ab (pv 0)) (aa au (aa au ae))) rfl))⟩
set_option maxHeartbeats 4000000 in
theorem sZ(B:Bl K mg base cv cA Cp)(fb:ai P w K mg base cv 3 "_law_cell_in" 3 cU){bg:Value}{A:Around}{outer:List Env}{s:Shared}{H:Hp}{E:XK}(hr:Room 6 (A.deeper (envOfC "law" (af ag) s.heap.objs.size f bg))):
 Box (fE (cT (iM P w cv) P w K mg base aB "law" (af ag) f bg A outer s H E) (fun n H'=>E (cv n) none H') ((aP ag).getD 1 (.Pass ⟨0,0,0,0⟩)) mh):=
 ⟨(Ei (aQ fb (hr.mono (by decide)) rfl aO (aa (ab (pv 0)) (aa au (aa (ab (pv 1)) ae))) rfl) (sH rfl (dZ (ba aT.nd rfl (by first | exact .inl rfl | exact .inr rfl)) (dZ (ba aT.nd rfl (by first | exact .inl rfl | exact .inr rfl)) mS))) (sL (is:=[2,3])))⟩
set_option maxHeartbeats 4000000 in
theorem s8(B:Bl K mg base cv cA Cp)(aU:ai P w K mg base cv 2 "_law_drawn" 3 aA){bg:Value}{A:Around}{outer:List Env}{s:Shared}{H:Hp}{E:XK}(hr:Room 6 (A.deeper (envOfC "law" (af ag) s.heap.objs.size f bg))):
 Box (fE (cT (iM P w cv) P w K mg base aB "law" (af ag) f bg A outer s H E) (fun n H'=>E (cv n) none H') ((aP ag).getD 2 (.Pass ⟨0,0,0,0⟩)) mi):=
 ⟨(bb aT.nd rfl (by first | exact .inl rfl | exact .inr rfl) (bu (ab (pv 2)) (aQ aU (hr.mono (by decide)) rfl aO (aa (ab (pv 0)) (aa au (aa (c8 (bE rfl B.len (aa (ab (pv 1)) ae)) (ab (pv 2))) ae))) rfl)))⟩
set_option maxHeartbeats 4000000 in
theorem s9(B:Bl K mg base cv cA Cp)(aU:ai P w K mg base cv 2 "_law_drawn" 3 aA){bg:Value}{A:Around}{outer:List Env}{s:Shared}{H:Hp}{E:XK}(hr:Room 6 (A.deeper (envOfC "law" (af ag) s.heap.objs.size f bg))):
 Box (fE (cT (iM P w cv) P w K mg base aB "law" (af ag) f bg A outer s H E) (fun n H'=>E (cv n) none H') ((aP ag).getD 3 (.Pass ⟨0,0,0,0⟩)) mj):=
 ⟨(bb aT.nd rfl (by first | exact .inl rfl | exact .inr rfl) (bu (ab (pv 3)) (aQ aU (hr.mono (by decide)) rfl aO (aa (ab (pv 0)) (aa au (aa (c8 (bE rfl B.len (aa (bf (ab (pv 1)) au) ae)) (ab (pv 3))) ae))) rfl)))⟩
set_option maxHeartbeats 4000000 in
theorem s_(B:Bl K mg base cv cA Cp)(cG:ai P w K mg base cv 5 "cut_out" 5 bF){bg:Value}{A:Around}{outer:List Env}{s:Shared}{H:Hp}{E:XK}(hr:Room 6 (A.deeper (envOfC "law" (af ag) s.heap.objs.size f bg))):
 Box (fE (cT (iM P w cv) P w K mg base aB "law" (af ag) f bg A outer s H E) (fun n H'=>E (cv n) none H') ((aP ag).getD 4 (.Pass ⟨0,0,0,0⟩)) ml):=
 ⟨(bb aT.nd rfl (by first | exact .inl rfl | exact .inr rfl) (aQ cG (hr.mono (by decide)) rfl aO (aa (ab (pv 1)) (aa (ab (pv 2)) (aa (ab (pv 3)) (aa (ab (pv 4)) (aa (ab (pv 5)) ae))))) rfl))⟩
set_option maxHeartbeats 4000000 in
theorem tf(B:Bl K mg base cv cA Cp)(a7:ai P w K mg base cv 5 "found_in" 2 aR){bg:Value}{A:Around}{outer:List Env}{s:Shared}{H:Hp}{E:XK}(hr:Room 6 (A.deeper (envOfC "law" (af ag) s.heap.objs.size f bg))):
 Box (fE (cT (iM P w cv) P w K mg base aB "law" (af ag) f bg A outer s H E) (fun n H'=>E (cv n) none H') ((aP ag).getD 5 (.Pass ⟨0,0,0,0⟩)) mm):=
 ⟨(bb aT.nd rfl (by first | exact .inl rfl | exact .inr rfl) (aQ a7 (hr.mono (by decide)) rfl aO (aa (ab (pv 1)) (aa (ab (pv 6)) ae)) rfl))⟩
set_option maxHeartbeats 4000000 in
theorem tj(B:Bl K mg base cv cA Cp){bg:Value}{A:Around}{outer:List Env}{s:Shared}{H:Hp}{E:XK}(hr:Room 6 (A.deeper (envOfC "law" (af ag) s.heap.objs.size f bg))):
 Box (fE (cT (iM P w cv) P w K mg base aB "law" (af ag) f bg A outer s H E) (fun n H'=>E (cv n) none H') ((aP ag).getD 6 (.Pass ⟨0,0,0,0⟩)) mn):=
 ⟨(bp (PDW.t (fg (qW hr.units (bY (aa (ab (pv 2)) (aa (ab (pv 3)) ae))) (ab (pv 7))) (eo (gD hr.units (ab (pv 7)) (zF rfl hr.units rfl B.sorted rfl B.set rfl rfl (ab (pv 7))))))) (ao (ax d_)) aW)⟩
set_option maxHeartbeats 4000000 in
theorem tm(B:Bl K mg base cv cA Cp)(a7:ai P w K mg base cv 5 "found_in" 2 aR){bg:Value}{A:Around}{outer:List Env}{s:Shared}{H:Hp}{E:XK}(hr:Room 6 (A.deeper (envOfC "law" (af ag) s.heap.objs.size f bg))):
 Box (fE (cT (iM P w cv) P w K mg base aB "law" (af ag) f bg A outer s H E) (fun n H'=>E (cv n) none H') ((aP ag).getD 7 (.Pass ⟨0,0,0,0⟩)) mq):=
 ⟨(bp (gD hr.units (aQ a7 (hr.mono (by decide)) rfl aO (aa (ab (pv 1)) (aa (ab (pv 1)) ae)) rfl) (oD (aa (bY (aa au (aa au ae))) ae))) (ao (ax d_)) aW)⟩
set_option maxHeartbeats 4000000 in
theorem tq(B:Bl K mg base cv cA Cp)(cG:ai P w K mg base cv 5 "cut_out" 5 bF){bg:Value}{A:Around}{outer:List Env}{s:Shared}{H:Hp}{E:XK}(hr:Room 6 (A.deeper (envOfC "law" (af ag) s.heap.objs.size f bg))):
 Box (fE (cT (iM P w cv) P w K mg base aB "law" (af ag) f bg A outer s H E) (fun n H'=>E (cv n) none H') ((aP ag).getD 8 (.Pass ⟨0,0,0,0⟩)) mr):=
 ⟨(dQ (c5 PassesOwn.never rfl (dr (ab (pv 7))) (sH rfl (dZ (ba aT.nd rfl (by first | exact .inl rfl | exact .inr rfl)) (dZ (ba aT.nd rfl (by first | exact .inl rfl | exact .inr rfl)) mS))) (sL (is:=[8,9])) (bT (ao (bp (gD hr.units (aQ cG (hr.mono (by decide)) rfl cO (aa (ab (pv 1)) (aa (ab (pv 8)) (aa (ab (pv 9)) (aa (c8 (bu (ab (pv 8)) (ab (pv 4))) (ab (pv 2))) (aa (c8 (bu (ab (pv 9)) (ab (pv 5))) (ab (pv 3))) ae))))) rfl) (ab (pv 6))) (ao (ax d_)) aW)))))⟩
set_option maxHeartbeats 4000000 in
theorem tu(B:Bl K mg base cv cA Cp){bg:Value}{A:Around}{outer:List Env}{s:Shared}{H:Hp}{E:XK}(hr:Room 6 (A.deeper (envOfC "law" (af ag) s.heap.objs.size f bg))):
 Box (fE (cT (iM P w cv) P w K mg base aB "law" (af ag) f bg A outer s H E) (fun n H'=>E (cv n) none H') ((aP ag).getD 9 (.Pass ⟨0,0,0,0⟩)) mw):=
 ⟨(l_ (tn:=["_law_row","_law_column"]) (n:=2) aT.nd rfl (by first | exact .inl rfl | exact .inr rfl) (br (N:=aB) (osc:=(af ag)) rfl rfl (by decide+kernel)) rfl rfl (dr (ab (pv 7))) (fun _ _ _ _ _ _ _=>HA (show List.Nodup (((["_law_row","_law_column"]:List Str))++cB ["_law_row","_law_column"] aB) by decide+kernel) rfl rfl rfl rfl rfl) (fun _ _ _ _ _ _=>cF) (fun _ _ _ _ _ _=>(bY (aa (ab (pv 0)) (aa (bu (c8 (c8 (c8 (bE rfl B.len (aa (bf (ab (pv 3)) au) ae)) au) (ab (pv 1))) (ab (pv 7))) (ab (pv 5))) ae)))))⟩
set_option maxHeartbeats 4000000 in
theorem pQ(B:Bl K mg base cv cA Cp)(a7:ai P w K mg base cv 5 "found_in" 2 aR)(f_:ai P w K mg base cv 5 "mirrored" 1 dG){bg:Value}{A:Around}{outer:List Env}{s:Shared}{H:Hp}{E:XK}(hr:Room 6 (A.deeper (envOfC "law" (af ag) s.heap.objs.size f bg))):
 Box (fE (cT (iM P w cv) P w K mg base aB "law" (af ag) f bg A outer s H E) (fun n H'=>E (cv n) none H') ((aP ag).getD 10 (.Pass ⟨0,0,0,0⟩)) kx):=
 ⟨(bp (gD hr.units (aQ a7 (hr.mono (by decide)) rfl aO (aa (aQ f_ (hr.mono (by decide)) rfl aO (aa (ab (pv 1)) ae) rfl) (aa (aQ f_ (hr.mono (by decide)) rfl aO (aa (ab (pv 6)) ae) rfl) ae)) rfl) (GW rfl B.sorted rfl (aa (ab (pv 10)) ae))) (ao (ax d_)) aW)⟩
set_option maxHeartbeats 4000000 in
theorem pR(B:Bl K mg base cv cA Cp)(cG:ai P w K mg base cv 5 "cut_out" 5 bF){bg:Value}{A:Around}{outer:List Env}{s:Shared}{H:Hp}{E:XK}(hr:Room 6 (A.deeper (envOfC "law" (af ag) s.heap.objs.size f bg))):
 Box (fE (cT (iM P w cv) P w K mg base aB "law" (af ag) f bg A outer s H E) (fun n H'=>E (cv n) none H') ((aP ag).getD 11 (.Pass ⟨0,0,0,0⟩)) ky):=
 ⟨(bb aT.nd rfl (by first | exact .inl rfl | exact .inr rfl) (aQ cG (hr.mono (by decide)) rfl aO (aa (ab (pv 6)) (aa au (aa au (aa (kX (c8 (ab (pv 4)) (ab (pv 2))) au) (aa (kX (c8 (ab (pv 5)) (ab (pv 3))) au) ae))))) rfl))⟩
set_option maxHeartbeats 4000000 in
theorem pS(B:Bl K mg base cv cA Cp)(a7:ai P w K mg base cv 5 "found_in" 2 aR){bg:Value}{A:Around}{outer:List Env}{s:Shared}{H:Hp}{E:XK}(hr:Room 6 (A.deeper (envOfC "law" (af ag) s.heap.objs.size f bg))):
 Box (fE (cT (iM P w cv) P w K mg base aB "law" (af ag) f bg A outer s H E) (fun n H'=>E (cv n) none H') ((aP ag).getD 12 (.Pass ⟨0,0,0,0⟩)) kz):=
 ⟨(bp (gD hr.units (cZ (tn:=["_law_place"]) (n:=0) (br (N:=aB) (osc:=(af ag)) rfl rfl (by decide+kernel)) rfl rfl (dr (ab (pv 7))) (fun _ _ _ _ _ _ _=>cN (show List.Nodup (((["_law_place"]:List Str))++cB ["_law_place"] aB) by decide+kernel) rfl rfl) (fun _ _ _ _ _ _=>(o6 (qW hr.units (ab (pv 0)) (aQ a7 (hr.mono (by decide)) rfl cO (aa (ab (pv 2)) (aa (ab (pv 12)) ae)) rfl)))) (fun _ _ _ _ _ _=>(ab (pv 0)))) (oD ae)) (ao (ax d_)) aW)⟩
set_option maxHeartbeats 4000000 in
theorem pT(B:Bl K mg base cv cA Cp)(a7:ai P w K mg base cv 5 "found_in" 2 aR)(aL:ai P w K mg base cv 5 "relettered" 1 aI)(fF:ai P w K mg base cv 5 "swapped" 3 cf)(bL:ai P w K mg base cv 6 "are_like" 2 bh)(iy:ai P w K mg base cv 6 "patches" 2 cb){bg:Value}{A:Around}{outer:List Env}{s:Shared}{H:Hp}{E:XK}(hr:Room 6 (A.deeper (envOfC "law" (af ag) s.heap.objs.size f bg))):
 Box (fE (cT (iM P w cv) P w K mg base aB "law" (af ag) f bg A outer s H E) (fun n H'=>E (cv n) none H') ((aP ag).getD 13 (.Pass ⟨0,0,0,0⟩)) kA):=
 ⟨(dQ (c5 PassesOwn.never rfl (eZ (bY (aa (bY (aa cR (aa cR ae))) (aa (bY (aa cR (aa cR ae))) (aa (bY (aa cR (aa cR ae))) (aa (bY (aa cR (aa cR ae))) ae)))))) (sH rfl (dZ (ba aT.nd rfl (by first | exact .inl rfl | exact .inr rfl)) (dZ (ba aT.nd rfl (by first | exact .inl rfl | exact .inr rfl)) mS))) (sL (is:=[12,13])) (bT (aq (bb aT.nd rfl (by first | exact .inl rfl | exact .inr rfl) (aQ fF (hr.mono (by decide)) rfl cO (aa (ab (pv 1)) (aa (ab (pv 12)) (aa (ab (pv 13)) ae))) rfl)) (aq (bp (PDW.t (fg (gD hr.units (aQ fF (hr.mono (by decide)) rfl cO (aa (ab (pv 14)) (aa (ab (pv 13)) (aa (ab (pv 12)) ae))) rfl) (ab (pv 1))) (eo (cq (bZ (aQ bL (hr.mono (by decide)) rfl cO (aa (ab (pv 14)) (aa (ab (pv 1)) ae)) rfl)))))) (ao (ax d_)) aW) (aq (bp (gD hr.units (aQ aL (hr.mono (by decide)) rfl cO (aa (ab (pv 14)) ae) rfl) (aQ aL (hr.mono (by decide)) rfl cO (aa (ab (pv 1)) ae) rfl)) (ao (ax d_)) aW) (aq (bp (gD hr.units (cZ (tn:=["_law_ways"]) (n:=0) (br (N:=aB) (osc:=(af ag)) rfl rfl (by decide+kernel)) rfl rfl (eZ (bY (aa au (aa au ae)))) (fun _ _ _ _ _ _ _=>cN (show List.Nodup (((["_law_ways"]:List Str))++cB ["_law_ways"] aB) by decide+kernel) rfl rfl) (fun _ _ _ _ _ _=>cF) (fun _ _ _ _ _ _=>(aQ iy (hr.mono (by decide)) rfl cO (aa (ab (pv 15)) (aa (ab (pv 0)) ae)) rfl))) (cZ (tn:=["_law_ways"]) (n:=0) (br (N:=aB) (osc:=(af ag)) rfl rfl (by decide+kernel)) rfl rfl (eZ (bY (aa au (aa au ae)))) (fun _ _ _ _ _ _ _=>cN (show List.Nodup (((["_law_ways"]:List Str))++cB ["_law_ways"] aB) by decide+kernel) rfl rfl) (fun _ _ _ _ _ _=>cF) (fun _ _ _ _ _ _=>(aQ iy (hr.mono (by decide)) rfl cO (aa (ab (pv 2)) (aa (ab (pv 0)) ae)) rfl)))) (ao (ax d_)) aW) (ao (bp (gD hr.units (aQ a7 (hr.mono (by decide)) rfl cO (aa (ab (pv 14)) (aa (aQ fF (hr.mono (by decide)) rfl cO (aa (ab (pv 6)) (aa (ab (pv 12)) (aa (ab (pv 13)) ae))) rfl) ae)) rfl) (ab (pv 7))) (ao (ax d_)) aW)))))))))⟩
set_option maxHeartbeats 4000000 in
theorem pU(B:Bl K mg base cv cA Cp)(aL:ai P w K mg base cv 5 "relettered" 1 aI){bg:Value}{A:Around}{outer:List Env}{s:Shared}{H:Hp}{E:XK}(hr:Room 6 (A.deeper (envOfC "law" (af ag) s.heap.objs.size f bg))):
 Box (fE (cT (iM P w cv) P w K mg base aB "law" (af ag) f bg A outer s H E) (fun n H'=>E (cv n) none H') ((aP ag).getD 14 (.Pass ⟨0,0,0,0⟩)) kB):=
 ⟨(bb aT.nd rfl (by first | exact .inl rfl | exact .inr rfl) (aQ aL (hr.mono (by decide)) rfl aO (aa (ab (pv 1)) ae) rfl))⟩
set_option maxHeartbeats 4000000 in
theorem pV(B:Bl K mg base cv cA Cp)(aL:ai P w K mg base cv 5 "relettered" 1 aI)(bL:ai P w K mg base cv 6 "are_like" 2 bh){bg:Value}{A:Around}{outer:List Env}{s:Shared}{H:Hp}{E:XK}(hr:Room 6 (A.deeper (envOfC "law" (af ag) s.heap.objs.size f bg))):
 Box (fE (cT (iM P w cv) P w K mg base aB "law" (af ag) f bg A outer s H E) (fun n H'=>E (cv n) none H') ((aP ag).getD 15 (.Pass ⟨0,0,0,0⟩)) kC):=
 ⟨(bp (PDW.t (fg (gD hr.units (aQ aL (hr.mono (by decide)) rfl aO (aa (ab (pv 15)) ae) rfl) (ab (pv 15))) (fg (cq (bZ (aQ bL (hr.mono (by decide)) rfl aO (aa (ab (pv 15)) (aa (ab (pv 1)) ae)) rfl))) (eo (gD hr.units (sD (bf (ab (pv 15)) au) au) cR))))) (ao (ax d_)) aW)⟩
set_option maxHeartbeats 4000000 in
theorem pW(B:Bl K mg base cv cA Cp)(aL:ai P w K mg base cv 5 "relettered" 1 aI)(bL:ai P w K mg base cv 6 "are_like" 2 bh){bg:Value}{A:Around}{outer:List Env}{s:Shared}{H:Hp}{E:XK}(hr:Room 6 (A.deeper (envOfC "law" (af ag) s.heap.objs.size f bg))):
 Box (fE (cT (iM P w cv) P w K mg base aB "law" (af ag) f bg A outer s H E) (fun n H'=>E (cv n) none H') ((aP ag).getD 16 (.Pass ⟨0,0,0,0⟩)) kD):=
 ⟨(ax (oC (l9 hr.units (aQ bL (hr.mono (by decide)) rfl aO (aa (ab (pv 1)) (aa (ab (pv 6)) ae)) rfl) (l9 hr.units (aQ aL (hr.mono (by decide)) rfl aO (aa (ab (pv 6)) ae) rfl) (ab (pv 15)))) (sF (aQ bL (hr.mono (by decide)) rfl aO (aa (ab (pv 6)) (aa (ab (pv 6)) ae)) rfl))))⟩
set_option maxHeartbeats 4000000 in
theorem uL{fd:FuncData}(B:Bl K mg base cv cA Cp)(gK:ai P w K mg base cv 3 "_law_board" 3 c_)(fb:ai P w K mg base cv 3 "_law_cell_in" 3 cU)(cG:ai P w K mg base cv 5 "cut_out" 5 bF)(a7:ai P w K mg base cv 5 "found_in" 2 aR)(aL:ai P w K mg base cv 5 "relettered" 1 aI)(aU:ai P w K mg base cv 2 "_law_drawn" 3 aA)(fF:ai P w K mg base cv 5 "swapped" 3 cf)(bL:ai P w K mg base cv 6 "are_like" 2 bh)(f_:ai P w K mg base cv 5 "mirrored" 1 dG)(iy:ai P w K mg base cv 6 "patches" 2 cb)(Fn:Fun K "law" "law" ag f fd):FnOk P w K mg base (iM P w cv) 7 f fd kU (HN K cv 1 iB):=
 Im (N:=aB) (ps:=kU) (τ:=lC) Fn aT fun bg A outer s H E hr=>by
  obtain⟨PU⟩:Box (PSDs (cT (iM P w cv) P w K mg base aB "law" (af ag) f bg A outer s H E) (fun n H'=>E (cv n) none H') (aP ag) lC):=(cP (sY B gK hr) (cP (sZ B fb hr) (cP (s8 B aU hr) (cP (s9 B aU hr) (cP (s_ B cG hr) (cP (tf B a7 hr) (cP (tj B hr) (cP (tm B a7 hr) (cP (tq B cG hr) (cP (tu B hr) (cP (pQ B a7 f_ hr) (cP (pR B cG hr) (cP (pS B a7 hr) (cP (pT B a7 aL fF bL iy hr) (cP (pU B aL hr) (cP (pV B aL bL hr) (Fv (pW B aL bL hr))))))))))))))))))
  assumption
end
end K1
namespace K1
open PySem L2 L3
theorem Bm{ds:List D}(h:ds.length≤lim):fQ ds=M.ret (.lst ds):=if_pos h
theorem dD:lim=4096:=rfl
theorem gG{α:Type}{xs:List α}{i:Nat}{x:α}(h:xs[i]? =some x):L2.atI xs (i:Int)=some x:=by
 obtain⟨hi,e⟩:=List.getElem?_eq_some_iff.mp h
 unfold L2.atI Gp
 rw[if_pos (Int.natCast_nonneg i),if_pos (by exact Int.ofNat_lt.mpr hi)]
 exact h
theorem ah{m:Nat}{g:List D→M D}{δs:DA}{ρ:aY}{ds:List D}(h:δs ρ=M.ret ds)(hl:ds.length=m):ak m g δs ρ=g ds:=by
 unfold ak
 rw[h]
 exact if_pos hl
theorem aE{a:DE}{r:DA}{ρ:aY}{x:D}{xs:List D}(h1:a ρ=M.ret x)(h2:r ρ=M.ret xs):aC a r ρ=M.ret (x::xs):=by
 unfold aC
 rw[h1,aj,h2]
 rfl
theorem aJ{g:D→D→M D}{a b:DE}{ρ:aY}{x y:D}(h1:a ρ=M.ret x)(h2:b ρ=M.ret y):d2 g a b ρ=g x y:=by
 unfold d2
 rw[h1,aj,h2]
 rfl
theorem cQ{g:List D→M D}{a:DA}{ρ:aY}{xs:List D}(h:a ρ=M.ret xs):dA g a ρ=g xs:=by
 unfold dA
 rw[h]
 rfl
theorem fJ{i j:Int}(h:0<j):jE (.int i) (.int j)=M.ret (.int (i % j)):=by
 show (if decide (0<j)=true then _ else _)=_
 rw[if_pos (decide_eq_true h)]
theorem gS{i j:Int}(h:0<j)(h2:j<1073741824):kK (.int i) (.int j)=M.ret (.int (i / j)):=by
 show (if decide (0<j∧j<1073741824)=true then _ else _)=_
 rw[if_pos (decide_eq_true ⟨h,h2⟩)]
theorem fK{i j:Int}(h:(-(2 ^ 64)<i∧i<2 ^ 64)∨(-(2 ^ 64)<j∧j<2 ^ 64)):gT (.int i) (.int j)=M.ret (.int (i*j)):=by
 show (if decide _=true then _ else _)=_
 rw[if_pos (decide_eq_true h)]
theorem gR{i j:Int}:bX (.int i) (.int j)=M.ret (.int (i+j)):=rfl
theorem uh{i j:Int}:d5 (.int i) (.int j)=M.ret (.int (i - j)):=rfl
theorem Al(ns:List Int)(hl:ns.length≤63)(k:Nat):∃v,eJ [.scr ns, .int (k:Int)]=M.ret (.int v):=by
 cases ns with
 |nil=>
  refine⟨7*(k:Int),?_⟩
  rfl
 |cons n r=>
  have hp:0<(n::r).length:=Nat.succ_pos _
  generalize e:(n::r)=ns at*
  have he:jz 6 (.scr ns) (.lst [])=some false:=by subst e;rfl
  obtain⟨y,hy⟩:∃y,ns[k % ns.length]? =some y:=⟨_,List.getElem?_eq_getElem (Nat.mod_lt _ hp)⟩
  have Kg:(0:Int)<(ns.length:Int):=by omega
  have h1:jE (.int (k:Int)) (.int (ns.length:Int))=M.ret (.int ((k % ns.length:Nat):Int)):=fJ Kg
  have h2:kK (.int (k:Int)) (.int (ns.length:Int))=M.ret (.int ((k:Int) / (ns.length:Int))):=gS Kg (by omega)
  have h3:AM (.scr ns) (.int ((k % ns.length:Nat):Int))=M.ret (.int y):=by
   show (match L2.atI ns ((k % ns.length:Nat):Int) with | some n=>M.ret (D.int n) | none=>M.stuck)=_
   rw[gG hy]
  have h4:gT (.int 6553) (.int ((k:Int) / (ns.length:Int)))=M.ret (.int (6553*((k:Int) / (ns.length:Int)))):=fK (.inl ⟨by decide,by decide⟩)
  refine⟨y+6553*((k:Int) / (ns.length:Int)),?_⟩
  simp only[eJ,pf,bU,aG,fk,bc,b_,df,d2,dV,dC,dA,aC,aN,fQ,bt,z4,mz,he,aj,h1,h2,h3,h4,List.map_cons,List.map_nil,List.cons_append,List.nil_append,List.length_cons,List.length_nil,List.getElem?_cons_zero,List.getElem?_cons_succ,dD,Nat.reduceAdd,Nat.zero_le,if_true,Bool.false_eq_true,if_false,bX,gI]
theorem c9(ns:List Int)(hl:ns.length≤63)(k m:Nat)(hm:0<m):∃v:Nat,v<m∧aA [.scr ns, .int (k:Int), .int (m:Int)]=M.ret (.int (v:Int)):=by
 obtain⟨c,hc⟩:=Al ns hl k
 have b1:=Int.emod_nonneg (c % 2147483563*69069+104723*((k:Int)+1)) (b:=2147483563) (by decide)
 have b2:=Int.emod_lt_of_pos (c % 2147483563*69069+104723*((k:Int)+1)) (b:=2147483563) (by decide)
 generalize hx:(c % 2147483563*69069+104723*((k:Int)+1)) % 2147483563=x at b1 b2
 have b3:=Int.emod_nonneg (x*x+x / 3) (b:=2147483399) (by decide)
 have b4:=Int.emod_lt_of_pos (x*x+x / 3) (b:=2147483399) (by decide)
 generalize hy:(x*x+x / 3) % 2147483399=y at b3 b4
 have m1:gT (.int (c % 2147483563)) (.int 69069)=_:=fK (.inr ⟨by decide,by decide⟩)
 have m2:gT (.int 104723) (.int ((k:Int)+1))=_:=fK (.inl ⟨by decide,by decide⟩)
 have m3:gT (.int x) (.int x)=_:=fK (.inl ⟨by omega,by omega⟩)
 have m4:gT (.int y) (.int y)=_:=fK (.inl ⟨by omega,by omega⟩)
 have hM:(0:Int)<(m:Int):=Int.ofNat_lt.mpr hm
 have n1:=Int.emod_nonneg ((y*y+y / 7) % 2147483647 / 11) (b:=(m:Int)) (by omega)
 have n2:=Int.emod_lt_of_pos ((y*y+y / 7) % 2147483647 / 11) hM
 have q1:jE (.int c) (.int 2147483563)=_:=fJ (by decide)
 have q2:jE (.int (c % 2147483563*69069+104723*((k:Int)+1))) (.int 2147483563)=_:=fJ (by decide)
 have q3:kK (.int x) (.int 3)=_:=gS (by decide) (by decide)
 have q4:jE (.int (x*x+x / 3)) (.int 2147483399)=_:=fJ (by decide)
 have q5:kK (.int y) (.int 7)=_:=gS (by decide) (by decide)
 have q6:jE (.int (y*y+y / 7)) (.int 2147483647)=_:=fJ (by decide)
 have q7:kK (.int ((y*y+y / 7) % 2147483647)) (.int 11)=_:=gS (by decide) (by decide)
 have q8:jE (.int ((y*y+y / 7) % 2147483647 / 11)) (.int (m:Int))=_:=fJ hM
 refine⟨((y*y+y / 7) % 2147483647 / 11 % (m:Int)).toNat,by omega,?_⟩
 rw[Int.toNat_of_nonneg n1]
 rw[hx] at q2
 rw[hy] at q4
 simp only[aA,me,bU,aG,cx,bc,ak,d2,dV,dC,dA,aC,aN,aj,hc,List.map_cons,List.map_nil,List.cons_append,List.nil_append,List.length_cons,List.length_nil,List.getElem?_cons_zero,List.getElem?_cons_succ,List.replicate,List.set_cons_zero,List.set_cons_succ,Nat.reduceAdd,Nat.reduceSub,if_true,gR,m1,m2,m3,m4,q1,q2,q3,q4,q5,q6,q7,q8]
theorem Bt{α:Type}(a:α):noex (M.ret a)=M.ret a:=rfl
theorem ud{put:D→aY→Option aY}{body:DS}{I:Nat→aY→Prop}:∀(ds:List D) (i:Nat) (ρ:aY),I i ρ→
 (∀j d,ds[j]? =some d→∀ρ,I (i+j) ρ→∃ρ1 ρ2,put d ρ=some ρ1∧body ρ1=M.ret (.nx ρ2)∧I (i+j+1) ρ2)→∃ρ',forL put body ds ρ=M.ret (.nx ρ')∧I (i+ds.length) ρ'
 |[],i,ρ,h,_=>⟨ρ,rfl,h⟩
 |d::ds,i,ρ,h,step=>by
  obtain⟨ρ1,ρ2,e1,e2,h2⟩:=step 0 d rfl ρ h
  obtain⟨ρ',e3,h3⟩:=ud (I:=I) ds (i+1) ρ2 h2 fun j d' hd ρ hI=>by
   have:=step (j+1) d' hd ρ (by rw[show i+(j+1)=i+1+j by omega];exact hI)
   rw[show i+(j+1)+1=i+1+j+1 by omega] at this
   exact this
  refine⟨ρ',?_,?_⟩
  ·show (match put d ρ with | none=>M.stuck | some ρ1=>body ρ1>>=fun o=>match o with | .nx ρ2=>forL put body ds ρ2 | .rt v=>M.ret (.rt v))=_
   rw[e1]
   show (body ρ1>>=fun o=>match o with | .nx ρ2=>forL put body ds ρ2 | .rt v=>M.ret (.rt v))=_
   rw[e2]
   exact e3
  ·rw[show i+(d::ds).length=i+1+ds.length by simp;omega]
   exact h3
theorem p9{f:D→M (Option D)}{Pr:D→Prop}:∀(ds:List D),(∀d∈ds,∃y,f d=M.ret (some y)∧Pr y)→∃ys,cj f ds=M.ret ys∧ys.length=ds.length∧∀y∈ys,Pr y
 |[],_=>⟨[],rfl,rfl,fun _ h=>by cases h⟩
 |d::ds,h=>by
  obtain⟨y,e,hy⟩:=h d (List.mem_cons_self ..)
  obtain⟨ys,e2,hl,hp⟩:=p9 ds fun d' hd=>h d' (List.mem_cons_of_mem _ hd)
  refine⟨y::ys,?_,by simp[hl],fun z hz=>?_⟩
  ·rw[cy,e,aj,e2]
   rfl
  ·cases hz with
   |head=>exact hy
   |tail _ hz=>exact hp z hz
theorem fG{f:D→M (Option D)}{g:D→D}:∀(ds:List D),(∀d∈ds,f d=M.ret (some (g d)))→cj f ds=M.ret (ds.map g)
 |[],_=>rfl
 |d::ds,h=>by
  rw[cy,h d (List.mem_cons_self ..),aj,fG ds fun d' hd=>h d' (List.mem_cons_of_mem _ hd)]
  rfl
def uv(x:Str):Bool:=!(Builtin.Str.occurrences ("abcdef":Str) x 0 ("abcdef":Str).length 1).isEmpty
structure Row (W:Nat) (r:Str):Prop where
 len:r.length=W
 let':∀c∈r.cps.toList,uv ⟨#[c]⟩=true
structure Good (bd:List Str) (W:Nat):Prop where
 r1:1≤bd.length
 r5:bd.length≤5
 w1:1≤W
 w5:W≤5
 rows:∀r∈bd,Row W r
theorem vq:∀(ys:List D),(∀y∈ys,∃c,y= .str ⟨#[c]⟩∧uv ⟨#[c]⟩=true)→∃xs,jt ys=some xs∧xs.length=ys.length∧(xs.map (·.length)).sum=ys.length∧Row ys.length (cS xs)
 |[],_=>⟨[],rfl,rfl,rfl,rfl,fun c h=>by cases h⟩
 |y::ys,h=>by
  obtain⟨c,e,hc⟩:=h y (List.mem_cons_self ..)
  obtain⟨xs,e1,e2,e3,e4⟩:=vq ys fun z hz=>h z (List.mem_cons_of_mem _ hz)
  subst e
  refine⟨⟨#[c]⟩::xs,?_,by simp[e2],?_,?_,fun z hz=>?_⟩
  ·show (jt ys).map _=_
   rw[e1]
   rfl
  ·rw[List.map_cons,List.sum_cons,e3]
   show 1+ys.length=_
   simp
   omega
  ·show ((⟨#[c]⟩:Str)++cS xs).length=_
   rw[ip,e4.len]
   show 1+ys.length=_
   simp
   omega
  ·have hz:z∈((⟨#[c]⟩:Str)++cS xs).cps.toList:=hz
   have:((⟨#[c]⟩:Str)++cS xs).cps= #[c]++(cS xs).cps:=rfl
   rw[this] at hz
   have hz:z∈c::(cS xs).cps.toList:=by simpa using hz
   cases hz with
   |head=>exact hc
   |tail _ hz=>exact e4.let' z hz
theorem Ce{lo:Int}{n:Nat}{d:D}(h:d∈fY lo n):∃i:Nat,i<n∧d= .int (lo+(i:Int)):=by
 unfold fY at h
 obtain⟨i,hi,e⟩:=List.mem_map.mp h
 exact⟨i,List.mem_range.mp hi,e.symm⟩
theorem Ep{lo:Int}{n j:Nat}{d:D}(h:(fY lo n)[j]? =some d):j<n∧d= .int (lo+(j:Int)):=by
 unfold fY at h
 rw[List.getElem?_map] at h
 by_cases hj:j<n
 ·rw[List.getElem?_range hj] at h
  cases h
  exact⟨hj,rfl⟩
 ·rw[List.getElem?_eq_none (by simpa using hj)] at h
  cases h
theorem hZ(lo:Int)(n:Nat):(fY lo n).length=n:=by simp[fY]
abbrev fz(d:D):Option Sl:=some (.fz d)
theorem gM{δe:DE}{ρ:aY}{d:D}:d8 0 bw δe ρ d=(δe (fz d::ρ)>>=fun y=>M.ret (some y)):=rfl
theorem vR{δt:DT}{δe:DE}{ρ:aY}{d:D}:d8 0 δt δe ρ d=(δt (fz d::ρ)>>=fun b=>if b then δe (fz d::ρ)>>=fun y=>M.ret (some y) else M.ret none):=rfl
theorem ar{a b:DS}{ρ ρ':aY}{o:M Out}(h:a ρ=M.ret (.nx ρ'))(h2:b ρ'=o):aG a b ρ=o:=by
 unfold aG
 rw[h]
 exact h2
theorem dw{a b:DS}{ρ:aY}{d:D}(h:a ρ=M.ret (.rt d)):aG a b ρ=M.ret (.rt d):=by
 unfold aG
 rw[h]
 rfl
theorem aZ{i:Nat}{δ:DE}{ρ:aY}{d:D}(h:δ ρ=M.ret d):cx i δ ρ=M.ret (.nx (ρ.set i (fz d))):=by
 unfold cx
 rw[h]
 rfl
theorem eP{c:DT}{a b:DS}{ρ:aY}{o:M Out}(h:c ρ=M.ret true)(h2:a ρ=o):fk c a b ρ=o:=by
 unfold fk
 rw[h]
 exact h2
theorem cu{c:DT}{a b:DS}{ρ:aY}{o:M Out}(h:c ρ=M.ret false)(h2:b ρ=o):fk c a b ρ=o:=by
 unfold fk
 rw[h]
 exact h2
theorem aD{δ:DE}{ρ:aY}{d:D}(h:δ ρ=M.ret d):bc δ ρ=M.ret (.rt d):=by
 unfold bc
 rw[h]
 rfl
theorem b9{δ:DE}{ρ:aY}{d:D}(h:δ ρ=M.ret d):iO δ ρ=M.ret (.nx ρ):=by
 unfold iO
 rw[h]
 rfl
theorem aX{n:Nat}{τ:DS}{ds:List D}{d:D}(h:τ (ds.map (fun d=>some (Sl.fz d))++List.replicate (n - ds.length) none)=M.ret (.rt d)):bU n τ ds=M.ret d:=by
 unfold bU
 rw[h]
 rfl
theorem sR{n:Nat}{τ:DS}{ds:List D}{ρ:aY}(h:τ (ds.map (fun d=>some (Sl.fz d))++List.replicate (n - ds.length) none)=M.ret (.nx ρ)):bU n τ ds=M.ret .non:=by
 unfold bU
 rw[h]
 rfl
theorem Ci{put:D→aY→Option aY}{δi:DA}{b:DS}{ρ:aY}{ds:List D}{o:Out}(h:δi ρ=M.ret ds)(h2:forL put b ds ρ=M.ret o):noex (fj put δi b ρ)=M.ret o:=by
 unfold fj
 rw[h,aj,h2]
 rfl
theorem bJ{is:List Nat}{τ:DS}{ρ ρ':aY}(h:τ ρ=M.ret (.nx ρ')):du is τ ρ=M.ret (.nx (fgt is ρ')):=by
 unfold du
 rw[h]
 rfl
theorem bC{n:Nat}{δi:DA}{δt:DT}{δe:DE}{ρ:aY}{ds ys:List D}(h:δi ρ=M.ret ds)(h2:cj (d8 n δt δe ρ) ds=M.ret ys)(h3:ys.length≤lim):a9 n δi δt δe ρ=M.ret (.lst ys):=by
 unfold a9
 rw[h,aj,h2,Bt,aj,Bm h3]
theorem lg{n:Nat}(h:n≤4096):ke [.int (n:Int)]=M.ret (fY 0 n):=by
 show (if -4096≤(n:Int)∧(n:Int)≤4096 then M.ret (fY 0 (n:Int).toNat) else M.stuck)=_
 rw[if_pos ⟨by omega,by omega⟩]
 rfl
structure Alpha (al:Str):Prop where
 pos:0<al.length
 ok:∀c∈al.cps.toList,uv ⟨#[c]⟩=true
theorem Fp:Alpha "ab"∧Alpha "abc"∧Alpha "aab"∧Alpha "fa":=by
 refine⟨⟨by decide+kernel,?_⟩,⟨by decide+kernel,?_⟩,⟨by decide+kernel,?_⟩,⟨by decide+kernel,?_⟩⟩<;>decide+kernel
theorem AN{x:Str}{i:Nat}(h:i<x.length):∃c,c∈x.cps.toList∧x.cps.toList[i]? =some c∧gE (.str x) (.int (i:Int))=M.ret (.str ⟨#[c]⟩):=by
 have h:i<x.cps.toList.length:=by rw[Array.length_toList];exact h
 refine⟨x.cps.toList[i],List.getElem_mem h,List.getElem?_eq_getElem h,?_⟩
 show (match L2.atI x.cps.toList (i:Int) with | some c=>M.ret (D.str ⟨#[c]⟩) | none=>M.stuck)=_
 rw[gG (List.getElem?_eq_getElem h)]
abbrev brd(bd:List Str):D:= .tup (bd.map D.str)
abbrev sgn(at' mo:Nat)(ns:List Int)(W:Nat)(al:Str)(bd:List Str)(R:Nat)(x7 x8:Option Sl):aY:=[fz (.scr ns),fz (.int (at':Int)),fz (.int (mo:Int)),fz (.int (R:Int)),fz (.int (W:Int)),fz (.str al),fz (brd bd),x7,x8]
def NC:DE:=a9 0 (fun ρ=>(aC (dV 4) aN) ρ>>=ke) bw (d2 gE (dV 6) (ak 3 aA (aC (dV 1) (aC (d2 bX (d2 bX (d2 bX (dV 2) (dC (.int 3))) (d2 gT (dC (.int 7)) (dV 8))) (dV 0)) (aC (dA bt (aC (dV 6) aN)) aN)))))
theorem zP(at' mo:Nat)(ns:List Int)(hl:ns.length≤63)(al:Str)(ha:Alpha al)(j W R:Nat)(hW:W≤5)(bd:List Str)(x8:Option Sl):
 ∃ys,NC (sgn at' mo ns W al bd R (fz (.int (0+(j:Int)))) x8)=M.ret (.lst ys)∧ys.length=W∧∀y∈ys,∃c,y= .str ⟨#[c]⟩∧uv ⟨#[c]⟩=true:=by
 obtain⟨ys,e,AZ,hp⟩:=p9 (f:=d8 0 bw (d2 gE (dV 6) (ak 3 aA (aC (dV 1) (aC (d2 bX (d2 bX (d2 bX (dV 2) (dC (.int 3))) (d2 gT (dC (.int 7)) (dV 8))) (dV 0)) (aC (dA bt (aC (dV 6) aN)) aN)))))
  (sgn at' mo ns W al bd R (fz (.int (0+(j:Int)))) x8)) (Pr:=fun y=>∃c,y= .str ⟨#[c]⟩∧uv ⟨#[c]⟩=true) (fY 0 W) fun d hd=>by
  obtain⟨i,hi,rfl⟩:=Ce hd
  obtain⟨v,hv,e⟩:=c9 ns hl (at'+3+7*j+i) al.length ha.pos
  obtain⟨c,hc,_,e2⟩:=AN hv
  refine⟨.str ⟨#[c]⟩,?_,c,rfl,ha.ok c hc⟩
  rw[gM]
  have k:(at':Int)+3+7*(0+(j:Int))+(0+(i:Int))=((at'+3+7*j+i:Nat):Int):=by omega
  have m1:gT (.int 7) (.int (0+(j:Int)))=M.ret (.int (7*(0+(j:Int)))):=fK (.inl ⟨by decide,by decide⟩)
  simp only[ak,d2,dV,dC,dA,aC,aN,aj,List.length_cons,List.length_nil,List.getElem?_cons_zero,List.getElem?_cons_succ,Nat.reduceAdd,if_true,gR,m1,k,bt,e,e2]
 refine⟨ys,bC (lg (n:=W) (by omega)) e (by rw[AZ,hZ,dD];omega),by rw[AZ,hZ],hp⟩
def ND:DS:=cx 6 (d2 ug (dV 6) (dA bB (aC (dM vF joinM (dC (.str "")) (aC (dV 8) aN)) aN)))
theorem C9(at' mo:Nat)(ns:List Int)(W:Nat)(al:Str)(bd:List Str)(R:Nat)(x7:Option Sl)(ys:List D)(hb:bd.length≤5)(hy:ys.length≤5)(s3:∀y∈ys,∃c,y= .str ⟨#[c]⟩∧uv ⟨#[c]⟩=true):
 ∃r,Row ys.length r∧ND (sgn at' mo ns W al bd R x7 (fz (.lst ys)))=M.ret (.nx (sgn at' mo ns W al (bd++[r]) R x7 (fz (.lst ys)))):=by
 obtain⟨xs,t1,t2,t3,t4⟩:=vq ys s3
 refine⟨cS xs,t4,?_⟩
 have jn:joinM (.str "") [.lst ys]=M.ret (.str (cS xs)):=by
  show (match jt ys with | some (xs:List Str)=>if ("":Str).length=0∧(xs.map (fun x:Str=>x.length)).sum≤lim then M.ret (D.str (cS xs)) else M.stuck | none=>M.stuck)=_
  rw[t1]
  show (if ("":Str).length=0∧(xs.map (fun x:Str=>x.length)).sum≤lim then M.ret (D.str (cS xs)) else M.stuck)=_
  rw[if_pos ⟨rfl,by rw[t3,dD];omega⟩]
 have ct:ug (brd bd) (.tup [.str (cS xs)])=M.ret (brd (bd++[cS xs])):=by
  show (if (bd.map D.str).length+1≤lim then M.ret (D.tup (bd.map D.str++[.str (cS xs)])) else M.stuck)=_
  rw[if_pos (by rw[List.length_map,dD];omega)]
  simp[brd]
 refine(aZ (d:=brd (bd++[cS xs])) ?_).trans rfl
 simp only[d2,dV,dC,dA,aC,aN,dM,vF,aj,List.getElem?_cons_zero,List.getElem?_cons_succ,if_true,jn,bB,List.length_cons,List.length_nil,dD,Nat.reduceAdd,Nat.reduceLeDiff,ct]
theorem vK(ns:List Int)(hl:ns.length≤63)(at' mo:Nat)(m0:0<mo)(m5:mo≤5):∃bd W,Good bd W∧bd.length≤mo∧W≤mo∧c_ [.scr ns, .int (at':Int), .int (mo:Int)]=M.ret (brd bd):=by
 obtain⟨r,hr,e1⟩:=c9 ns hl at' mo m0
 obtain⟨c,hc,e2⟩:=c9 ns hl (at'+1) mo m0
 obtain⟨a,ha,e3⟩:=c9 ns hl (at'+2) 4 (by decide)
 obtain⟨al,IC,e4⟩:∃al,Alpha al∧AL (.lst [.str "ab", .str "abc", .str "aab", .str "fa"]) (.int (a:Int))=M.ret (.str al):=by
  obtain⟨a1,a2,a3,a4⟩:=Fp
  match a,ha with
  |0,_=>exact⟨_,a1,rfl⟩
  |1,_=>exact⟨_,a2,rfl⟩
  |2,_=>exact⟨_,a3,rfl⟩
  |3,_=>exact⟨_,a4,rfl⟩
 have k1:(1:Int)+(r:Int)=((r+1:Nat):Int):=by omega
 have k2:(1:Int)+(c:Int)=((c+1:Nat):Int):=by omega
 have z5:aA [.scr ns, .int (at':Int), .int (mo:Int)]=M.ret (.int (r:Int)):=e1
 have HG:aA [.scr ns, .int ((at':Int)+1), .int (mo:Int)]=M.ret (.int (c:Int)):=e2
 have J5:aA [.scr ns, .int ((at':Int)+2), .int 4]=M.ret (.int (a:Int)):=e3
 obtain⟨ρ',f1,bd,f2,f3,f4⟩:=ud (put:=putN 7) (body:=du [7,8] (aG (cx 8 NC) ND))
  (I:=fun i ρ=>∃bd,ρ=sgn at' mo ns (c+1) al bd (r+1) none none∧bd.length=i∧∀z∈bd,Row (c+1) z)
  (fY 0 (r+1)) 0 (sgn at' mo ns (c+1) al [] (r+1) none none) ⟨[],rfl,rfl,fun _ h=>by cases h⟩ fun j d hd ρ ⟨bd,hρ,hb,hw⟩=>by
   obtain⟨hj,rfl⟩:=Ep hd
   subst hρ
   obtain⟨ys,s1,s2,s3⟩:=zP at' mo ns hl al IC j (c+1) (r+1) (by omega) bd none
   obtain⟨C4,t1,t2⟩:=C9 at' mo ns (c+1) al bd (r+1) (fz (.int (0+(j:Int)))) ys (by omega) (by omega) s3
   refine⟨_,_,rfl,bJ (ar (aZ s1) t2),bd++[C4],rfl,by simp[hb],fun z hz=>?_⟩
   rcases List.mem_append.mp hz with h | h
   ·exact hw z h
   ·have h:z=C4:=by simpa using h
    subst h
    rw[s2] at t1
    exact t1
 refine⟨bd,c+1,⟨by rw[f3,hZ];omega,by rw[f3,hZ];omega,by omega,by omega,f4⟩,by rw[f3,hZ];omega,by omega,?_⟩
 subst f2
 refine aX ?_
 refine ar (aZ (d:= .int ((r+1:Nat):Int)) ?_) ?_
 ·simp only[ak,d2,dV,dC,aC,aN,aj,List.map_cons,List.map_nil,List.cons_append,List.nil_append,List.length_cons,List.length_nil,List.getElem?_cons_zero,List.getElem?_cons_succ,Nat.reduceAdd,if_true,gR,z5,k1]
 refine ar (aZ (d:= .int ((c+1:Nat):Int)) ?_) ?_
 ·simp only[ak,d2,dV,dC,aC,aN,aj,List.map_cons,List.map_nil,List.cons_append,List.nil_append,List.length_cons,List.length_nil,List.replicate,List.set_cons_zero,List.set_cons_succ,Nat.reduceSub,List.getElem?_cons_zero,List.getElem?_cons_succ,Nat.reduceAdd,if_true,gR,HG,k2]
 refine ar (aZ (d:= .str al) ?_) ?_
 ·simp only[ak,d2,dV,dC,dA,aC,aN,aj,List.map_cons,List.map_nil,List.cons_append,List.nil_append,List.length_cons,List.length_nil,List.replicate,List.set_cons_zero,List.set_cons_succ,Nat.reduceSub,List.getElem?_cons_zero,List.getElem?_cons_succ,Nat.reduceAdd,if_true,gR,J5,fQ,dD,Nat.reduceLeDiff,e4]
 refine ar (aZ (d:= .tup []) rfl) ?_
 refine ar (Ci (lg (n:=r+1) (by omega)) f1) ?_
 exact aD rfl
theorem yE(ns:List Int)(hl:ns.length≤63)(at' mo:Nat)(m0:0<mo)(m5:mo≤5):∃bd W,Good bd W∧c_ [.scr ns, .int (at':Int), .int (mo:Int)]=M.ret (brd bd):=by
 obtain⟨bd,W,h1,_,_,h2⟩:=vK ns hl at' mo m0 m5
 exact⟨bd,W,h1,h2⟩
def Plain:D→Prop
 | .non | .bl _ | .int _ | .str _ | .tup _ | .lst _=>True
 |_=>False
def isStr:D→Bool
 | .str _=>true
 |_=>false
def isTup:D→Bool
 | .tup _=>true
 |_=>false
theorem eX{d:D}(h:Plain d):gF [d, .raw (.ty "str")]=M.ret (.bl (isStr d)):=by
 cases d<;>first | rfl | exact h.elim
theorem mO{d:D}(h:Plain d):gF [d, .raw (.ty "tuple")]=M.ret (.bl (isTup d)):=by
 cases d<;>first | rfl | exact h.elim
def r9:D→Bool
 | .str x=>(x.length==1)&&uv x
 |_=>false
theorem eG{ρ:aY}{i:Nat}{d:D}(h:ρ[i]? =some (fz d)):dV i ρ=M.ret d:=by
 unfold dV
 rw[h]
theorem eq_int(i j:Int):mz (.int i) (.int j)=M.ret (.bl (i==j)):=rfl
theorem ne_int(i j:Int):mB (.int i) (.int j)=M.ret (.bl (!(i==j))):=rfl
theorem len_str(x:Str):bt [.str x]=M.ret (.int (x.length:Int)):=rfl
theorem in_str(x:Str):AK false (.str x) (.str "abcdef")=M.ret (.bl (uv x)):=rfl
theorem lT(a b:Nat):((a:Int)==(b:Int))=(a==b):=by
 by_cases h:a=b
 ·subst h;simp
 ·have h2:¬(a:Int)=(b:Int):=by omega
  rw[beq_eq_false_iff_ne.mpr h,beq_eq_false_iff_ne.mpr h2]
theorem DQ{d:D}(h:Plain d){i:Nat}{ρ:aY}(hρ:ρ[i]? =some (fz d)):
 dE (dA gF (aC (dV i) (aC (dC (.raw (.ty "str"))) aN))) (dE (d2 mz (dA bt (aC (dV i) aN)) (dC (.int 1))) (d2 (AK false) (dV i) (dC (.str "abcdef")))) ρ=M.ret (.bl (r9 d)):=by
 have hv:=eG hρ
 have e1:=lT
 cases d with
 |str x=>
  have k:((x.length:Int)==1)=(x.length==1):=lT x.length 1
  simp only[dE,dA,aC,aN,dC,d2,hv,aj,eX h,isStr,z4,if_true,len_str,eq_int,k,in_str,r9]
  cases x.length==1<;>rfl
 |non=>simp only[dE,dA,aC,aN,dC,d2,hv,aj,eX h,isStr,z4,if_false,Bool.false_eq_true,r9]
 |bl b=>simp only[dE,dA,aC,aN,dC,d2,hv,aj,eX h,isStr,z4,if_false,Bool.false_eq_true,r9]
 |int b=>simp only[dE,dA,aC,aN,dC,d2,hv,aj,eX h,isStr,z4,if_false,Bool.false_eq_true,r9]
 |tup b=>simp only[dE,dA,aC,aN,dC,d2,hv,aj,eX h,isStr,z4,if_false,Bool.false_eq_true,r9]
 |lst b=>simp only[dE,dA,aC,aN,dC,d2,hv,aj,eX h,isStr,z4,if_false,Bool.false_eq_true,r9]
 |raw _=>exact h.elim
 |exc _=>exact h.elim
 |scr _=>exact h.elim
 |dct _ _=>exact h.elim
 |dci _ _=>exact h.elim
theorem iU{d:D}(h:Plain d):bI [d]=M.ret (.bl (r9 d)):=aX (aD (DQ h rfl))
def iD(x:Str):Bool:=x.cps.toList.all fun c=>uv ⟨#[c]⟩
def mH:D→Bool
 | .str x=>(decide (1≤x.length)&&decide (x.length≤8))&&iD x
 |_=>false
theorem yF(l:List Bool):bools (l.map D.bl)=some l:=by
 induction l with
 |nil=>rfl
 |cons b r ih=>show (bools (r.map D.bl)).map _=_;rw[ih];rfl
theorem all_map(l:List Bool):allM [.lst (l.map D.bl)]=M.ret (.bl (l.all id)):=by
 show (match bools (l.map D.bl) with | some bs=>M.ret (D.bl (bs.all id)) | none=>M.stuck)=_
 rw[yF]
theorem Am{δ:DE}{ρ:aY}{n:Nat}(h:δ ρ=M.ret (.int (n:Int))):
 df (vQ (fun i j=>decide (i≤j)) (fun i j=>decide (i≤j)) (dC (.int 1)) δ (dC (.int 8))) ρ=M.ret (decide (1≤n)&&decide (n≤8)):=by
 have k1:decide ((1:Int)≤(n:Int))=decide (1≤n):=by by_cases h:1≤n<;>simp[h]<;>omega
 have k2:decide ((n:Int)≤8)=decide (n≤8):=by by_cases h:n≤8<;>simp[h]<;>omega
 simp only[df,vQ,dC,h,aj,k1,k2,gI,z4]
 cases decide (1≤n)<;>rfl
theorem wb{d:D}(h:Plain d):eI [d]=M.ret (.bl (mH d)):=by
 refine aX ?_
 have hρ:([d].map (fun d=>some (Sl.fz d))++List.replicate (1 - [d].length) none)=[fz d]:=rfl
 rw[hρ]
 have hv:dV 0 [fz d]=M.ret d:=rfl
 have no:isStr d=false→vy [fz d]=M.ret (.rt (.bl false)):=fun hs=>by
  refine dw (eP ?_ (aD rfl))
  simp only[kE,b6,bH,dA,aC,aN,dC,hv,aj,eX h,hs,vp,Bool.not_false,if_true]
 cases d with
 |str x=>
  have hi:bH (dA gF (aC (dV 0) (aC (dC (.raw (.ty "str"))) aN))) [fz (.str x)]=M.ret true:=by
   simp only[bH,dA,aC,aN,dC,hv,aj,eX h,isStr,vp]
  have hl:dA bt (aC (dV 0) aN) [fz (.str x)]=M.ret (.int (x.length:Int)):=rfl
  have hc:=Am hl
  by_cases hr:(decide (1≤x.length)&&decide (x.length≤8))=true
  ·rw[hr] at hc
   refine ar (cu ?_ (ρ:=[fz (.str x)]) rfl) (aD ?_)
   ·unfold kE b6
    rw[hi,aj,aj,hc]
    rfl
   ·have hb:x.length≤8:=by simp only[Bool.and_eq_true,decide_eq_true_eq] at hr;exact hr.2
    have cm:a9 0 (fun ρ=>(dV 0) ρ>>=oW) bw (ak 1 bI (aC (dV 0) aN)) [fz (.str x)]=M.ret (.lst ((x.cps.toList.map fun c=>uv ⟨#[c]⟩).map D.bl)):=by
     refine bC (ds:=signs x) rfl ?_ ?_
     ·have:=fG (f:=d8 0 bw (ak 1 bI (aC (dV 0) aN)) [fz (.str x)]) (g:=fun d=>D.bl (r9 d)) (signs x) fun d hd=>by
       rw[gM]
       obtain⟨c,_,rfl⟩:=List.mem_map.mp hd
       show (bI [.str ⟨#[c]⟩]>>=fun y=>M.ret (some y))=_
       rw[iU (d:= .str ⟨#[c]⟩) trivial]
       rfl
      rw[this]
      unfold signs
      rw[List.map_map,List.map_map]
      congr 1
     ·rw[List.length_map,List.length_map,Array.length_toList,dD]
      exact Nat.le_trans hb (by decide)
    rw[cQ (aE cm rfl),all_map]
    show M.ret (D.bl ((x.cps.toList.map fun c=>uv ⟨#[c]⟩).all id))=M.ret (D.bl ((decide (1≤x.length)&&decide (x.length≤8))&&iD x))
    rw[hr]
    unfold iD
    rw[List.all_map]
    rfl
  ·have hr:(decide (1≤x.length)&&decide (x.length≤8))=false:=by simpa using hr
   rw[hr] at hc
   have:mH (.str x)=false:=by
    show ((decide (1≤x.length)&&decide (x.length≤8))&&iD x)=false
    rw[hr];rfl
   rw[this]
   refine dw (eP ?_ (aD rfl))
   unfold kE b6
   rw[hi,aj,aj,hc]
   rfl
 |non=>exact no rfl
 |bl b=>exact no rfl
 |int b=>exact no rfl
 |tup b=>exact no rfl
 |lst b=>exact no rfl
 |raw _=>exact h.elim
 |exc _=>exact h.elim
 |scr _=>exact h.elim
 |dct _ _=>exact h.elim
 |dci _ _=>exact h.elim
def jf:D→Nat
 | .str x=>x.length
 |_=>0
def m8:D→Bool
 | .tup ds=>(decide (1≤ds.length)&&decide (ds.length≤8))&&(ds.all mH&&ds.all fun d=>jf d==jf (ds.headD .non))
 |_=>false
def Plain2:D→Prop
 | .tup ds=>∀d∈ds,Plain d
 |d=>Plain d
theorem Plain2.plain{d:D}(h:Plain2 d):Plain d:=by
 cases d<;>first | exact h | exact trivial
theorem Nl{ρ:aY}{i:Nat}{ds:List D}(h:ρ[i]? =some (fz (.tup ds))):fc (dV i) ρ=M.ret ds:=by
 unfold fc
 rw[eG h]
 rfl
theorem DN{ds:List D}:bt [.tup ds]=M.ret (.int (ds.length:Int)):=rfl
theorem LS{ds:List D}{d:D}{r:List D}(h:ds=d::r):a_ (.tup ds) (.int 0)=M.ret d:=by
 subst h
 show (match L2.atI (d::r) ((0:Nat):Int) with | some d=>M.ret d | none=>M.stuck)=_
 rw[gG (x:=d) rfl]
theorem Er{d:D}(h:mH d=true):∃x,d= .str x:=by
 cases d<;>first | exact⟨_,rfl⟩ | cases h
theorem yR{d:D}(h:Plain d):kE (b6 (bH (dA gF (aC (dV 0) (aC (dC (.raw (.ty "tuple"))) aN))))) (b6 (df (vQ (fun i j=>decide (i≤j)) (fun i j=>decide (i≤j)) (dC (.int 1)) (dA bt (aC (dV 0) aN)) (dC (.int 8))))) [fz d]=
 M.ret (match d with | .tup ds=>!(decide (1≤ds.length)&&decide (ds.length≤8)) | _=>true):=by
 have hv:dV 0 [fz d]=M.ret d:=rfl
 have no:isTup d=false→kE (b6 (bH (dA gF (aC (dV 0) (aC (dC (.raw (.ty "tuple"))) aN))))) (b6 (df (vQ (fun i j=>decide (i≤j)) (fun i j=>decide (i≤j)) (dC (.int 1)) (dA bt (aC (dV 0) aN)) (dC (.int 8))))) [fz d]=M.ret true:=fun hs=>by
  simp only[kE,b6,bH,dA,aC,aN,dC,hv,aj,mO h,hs,vp,Bool.not_false,if_true]
 cases d with
 |tup ds=>
  have hi:bH (dA gF (aC (dV 0) (aC (dC (.raw (.ty "tuple"))) aN))) [fz (.tup ds)]=M.ret true:=by
   simp only[bH,dA,aC,aN,dC,hv,aj,mO h,isTup,vp]
  have hl:dA bt (aC (dV 0) aN) [fz (.tup ds)]=M.ret (.int (ds.length:Int)):=rfl
  unfold kE b6
  rw[hi,aj,aj,Am hl]
  rfl
 |non=>exact no rfl
 |bl b=>exact no rfl
 |int b=>exact no rfl
 |str b=>exact no rfl
 |lst b=>exact no rfl
 |raw _=>exact h.elim
 |exc _=>exact h.elim
 |scr _=>exact h.elim
 |dct _ _=>exact h.elim
 |dci _ _=>exact h.elim
theorem all_rows{ds:List D}(h:∀d∈ds,Plain d)(hl:ds.length≤8):dA allM (aC (a9 0 (fc (dV 0)) bw (ak 1 eI (aC (dV 0) aN))) aN) [fz (.tup ds)]=M.ret (.bl (ds.all mH)):=by
 have cm:a9 0 (fc (dV 0)) bw (ak 1 eI (aC (dV 0) aN)) [fz (.tup ds)]=M.ret (.lst ((ds.map mH).map D.bl)):=by
  refine bC (ds:=ds) rfl ?_ (by rw[List.length_map,List.length_map,dD];omega)
  rw[List.map_map]
  refine fG (g:=D.bl∘mH) ds fun d hd=>?_
  rw[gM]
  show (eI [d]>>=fun y=>M.ret (some y))=_
  rw[wb (h d hd)]
  rfl
 rw[cQ (aE cm rfl),all_map,List.all_map]
 rfl
theorem all_lens{ds:List D}(hs:∀d∈ds,∃x,d= .str x)(h0:1≤ds.length)(hl:ds.length≤8):
 dA allM (aC (a9 0 (fc (dV 0)) bw (d2 mz (dA bt (aC (dV 0) aN)) (dA bt (aC (d2 a_ (dV 1) (dC (.int 0))) aN)))) aN) [fz (.tup ds)]=M.ret (.bl (ds.all fun d=>jf d==jf (ds.headD .non))):=by
 obtain⟨d0,r,e0⟩:∃d0 r,ds=d0::r:=by
  cases ds with
  |nil=>simp at h0
  |cons a r=>exact⟨a,r,rfl⟩
 have hh:ds.headD .non=d0:=by rw[e0];rfl
 obtain⟨x0,Nf⟩:=hs d0 (by rw[e0];exact List.mem_cons_self ..)
 have cm:a9 0 (fc (dV 0)) bw (d2 mz (dA bt (aC (dV 0) aN)) (dA bt (aC (d2 a_ (dV 1) (dC (.int 0))) aN))) [fz (.tup ds)]=M.ret (.lst ((ds.map fun d=>jf d==jf (ds.headD .non)).map D.bl)):=by
  refine bC (ds:=ds) rfl ?_ (by rw[List.length_map,List.length_map,dD];omega)
  rw[List.map_map]
  refine fG (g:=D.bl∘fun d=>jf d==jf (ds.headD .non)) ds fun d hd=>?_
  rw[gM]
  obtain⟨x,rfl⟩:=hs d hd
  have k:((x.length:Int)==(x0.length:Int))=(x.length==x0.length):=lT _ _
  have i0:a_ (.tup ds) (.int 0)=M.ret (.str x0):=by rw[LS e0,Nf]
  have Ol:ds.headD .non= .str x0:=by rw[hh,Nf]
  simp only[d2,dA,aC,aN,dC,dV,aj,List.getElem?_cons_zero,List.getElem?_cons_succ,len_str,i0,eq_int,k,Function.comp,jf,Ol]
 rw[cQ (aE cm rfl),all_map,List.all_map]
 rfl
theorem r0{d:D}(h:Plain2 d):gg [d]=M.ret (.bl (m8 d)):=by
 refine aX ?_
 have hρ:([d].map (fun d=>some (Sl.fz d))++List.replicate (1 - [d].length) none)=[fz d]:=rfl
 rw[hρ]
 have hf:=yR h.plain
 have no:(∀ds,d≠ .tup ds)→pe [fz d]=M.ret (.rt (.bl (m8 d))):=fun hn=>by
  cases d<;>first | exact absurd rfl (hn _) | exact dw (eP hf (aD rfl))
 cases d with
 |tup ds=>
  have hf:_=M.ret (!(decide (1≤ds.length)&&decide (ds.length≤8))):=hf
  by_cases hr:(decide (1≤ds.length)&&decide (ds.length≤8))=true
  ·rw[hr] at hf
   have hb:=hr
   simp only[Bool.and_eq_true,decide_eq_true_eq] at hb
   have e:m8 (.tup ds)=(ds.all mH&&ds.all fun d=>jf d==jf (ds.headD .non)):=by
    show ((decide (1≤ds.length)&&decide (ds.length≤8))&&_)=_
    rw[hr,Bool.true_and]
   rw[e]
   have a1:=all_rows h hb.2
   refine ar (cu hf rfl) ?_
   cases hc:ds.all mH with
   |false=>
    rw[hc] at a1
    refine dw (eP ?_ (aD rfl))
    unfold b6 bH
    rw[a1]
    rfl
   |true=>
    rw[hc] at a1
    refine ar (cu ?_ rfl) (aD ?_)
    ·unfold b6 bH
     rw[a1]
     rfl
    ·rw[Bool.true_and]
     exact all_lens (fun d hd=>Er (List.all_eq_true.mp hc d hd)) hb.1 hb.2
  ·have hr:(decide (1≤ds.length)&&decide (ds.length≤8))=false:=by simpa using hr
   rw[hr] at hf
   have e:m8 (.tup ds)=false:=by
    show ((decide (1≤ds.length)&&decide (ds.length≤8))&&_)=_
    rw[hr];rfl
   rw[e]
   exact dw (eP hf (aD rfl))
 |non=>exact no fun _ z=>by cases z
 |bl b=>exact no fun _ z=>by cases z
 |int b=>exact no fun _ z=>by cases z
 |str b=>exact no fun _ z=>by cases z
 |lst b=>exact no fun _ z=>by cases z
 |raw _=>exact h.elim
 |exc _=>exact h.elim
 |scr _=>exact h.elim
 |dct _ _=>exact h.elim
 |dci _ _=>exact h.elim
structure Brd (ob:List Str) (V:Nat):Prop where
 r1:1≤ob.length
 r8:ob.length≤8
 w1:1≤V
 w8:V≤8
 rows:∀r∈ob,Row V r
theorem Good.brd{bd:List Str}{W:Nat}(hg:Good bd W):Brd bd W:=⟨hg.r1,by have:=hg.r5;omega,hg.w1,by have:=hg.w5;omega,hg.rows⟩
theorem Brd.board{ob:List Str}{V:Nat}(h:Brd ob V):m8 (brd ob)=true:=by
 have LB:∀r∈ob,mH (.str r)=true:=fun r hr=>by
  have q:=h.rows r hr
  show ((decide (1≤r.length)&&decide (r.length≤8))&&iD r)=true
  rw[q.len]
  have a:decide (1≤V)=true:=decide_eq_true h.w1
  have b:decide (V≤8)=true:=decide_eq_true h.w8
  rw[a,b]
  show iD r=true
  exact List.all_eq_true.mpr fun c hc=>q.let' c hc
 have h0:jf ((ob.map D.str).headD .non)=V:=by
  have:=h.r1
  have hr:=h.rows
  cases ob with
  |nil=>simp at this
  |cons x l=>exact(hr x (List.mem_cons_self ..)).len
 show ((decide (1≤(ob.map D.str).length)&&decide ((ob.map D.str).length≤8))&&((ob.map D.str).all mH&&(ob.map D.str).all fun d=>jf d==jf ((ob.map D.str).headD .non)))=true
 rw[h0,List.length_map,decide_eq_true h.r1,decide_eq_true h.r8]
 have a:(ob.map D.str).all mH=true:=List.all_eq_true.mpr fun d hd=>by
  obtain⟨r,hr,rfl⟩:=List.mem_map.mp hd
  exact LB r hr
 have b:((ob.map D.str).all fun d=>jf d==V)=true:=List.all_eq_true.mpr fun d hd=>by
  obtain⟨r,hr,rfl⟩:=List.mem_map.mp hd
  show (r.length==V)=true
  rw[(h.rows r hr).len]
  simp
 rw[a,b]
 rfl
theorem yG{bd:List Str}:Plain2 (brd bd):=fun d hd=>by
 obtain⟨r,_,rfl⟩:=List.mem_map.mp hd
 trivial
theorem ja{δ:DE}{ρ:aY}{b:Bool}(h:δ ρ=M.ret (.bl b)):bH δ ρ=M.ret b:=by
 unfold bH
 rw[h]
 rfl
theorem fC{δ:DE}{ρ:aY}{b:Bool}(h:δ ρ=M.ret (.bl b)):df δ ρ=M.ret b:=by
 unfold df
 rw[h]
 rfl
theorem ni{τ:DT}{ρ:aY}{b:Bool}(h:τ ρ=M.ret b):b6 τ ρ=M.ret (!b):=by
 unfold b6
 rw[h]
 rfl
theorem tY{a c:DT}{ρ:aY}{p q:Bool}(h1:a ρ=M.ret p)(h2:c ρ=M.ret q):kE a c ρ=M.ret (p||q):=by
 unfold kE
 rw[h1,aj]
 cases p
 ·exact h2
 ·rfl
theorem Dc{a c:DE}{ρ:aY}{p q:Bool}(h1:a ρ=M.ret (.bl p))(h2:c ρ=M.ret (.bl q)):dE a c ρ=M.ret (.bl (p&&q)):=by
 unfold dE
 rw[h1,aj]
 cases p
 ·rfl
 ·exact h2
theorem Brd.nb{ob:List Str}{V:Nat}(h:Brd ob V):aM [brd ob]=M.ret .non:=by
 refine sR (ρ:=[fz (brd ob)]) (cu (ni (ja (b:=true) ?_)) rfl)
 refine(ah (ds:=[brd ob]) rfl rfl).trans ?_
 rw[r0 yG,h.board]
theorem Brd.len0{ob:List Str}{V:Nat}(h:Brd ob V){i:Nat}{ρ:aY}(hρ:ρ[i]? =some (fz (brd ob))):dA bt (aC (d2 a_ (dV i) (dC (.int 0))) aN) ρ=M.ret (.int (V:Int)):=by
 have h1:=h.r1
 have hr:=h.rows
 obtain⟨x,l,e⟩:∃x l,ob=x::l:=by
  cases ob with
  |nil=>simp at h1
  |cons x l=>exact⟨x,l,rfl⟩
 have hx:x.length=V:=(hr x (by rw[e];exact List.mem_cons_self ..)).len
 have i0:a_ (brd ob) (.int 0)=M.ret (.str x):=LS (show ob.map D.str=D.str x::l.map D.str by rw[e];rfl)
 have k:=aJ (g:=a_) (eG hρ) (show dC (.int 0) ρ=M.ret (.int 0) from rfl)
 rw[i0] at k
 rw[cQ (aE (xs:=[]) k rfl)]
 show M.ret (D.int (x.length:Int))=_
 rw[hx]
theorem Be{bd:List Str}{i:Nat}{ρ:aY}(hρ:ρ[i]? =some (fz (brd bd))):dA bt (aC (dV i) aN) ρ=M.ret (.int (bd.length:Int)):=by
 have:bt [brd bd]=M.ret (.int (bd.length:Int)):=by
  show M.ret (D.int ((bd.map D.str).length:Int))=_
  rw[List.length_map]
 simp only[dA,aC,aN,eG hρ,aj,this]
def gA:D→Bool
 | .int _=>true
 |_=>false
theorem rn{d:D}(h:Plain d):bj [d]=M.ret (.bl (gA d)):=by
 cases d<;>first | rfl | exact h.elim
def H9(R W:Nat):D→D→Bool
 | .int a, .int b=>(decide (0≤a)&&decide (a<(R:Int)))&&(decide (0≤b)&&decide (b<(W:Int)))
 |_,_=>false
def EN(R W:Nat):D→Bool
 | .tup [u,v]=>H9 R W u v
 |_=>false
theorem Ia{δ ε:DE}{ρ:aY}{i n:Int}(h:δ ρ=M.ret (.int i))(h2:ε ρ=M.ret (.int n)):
 vQ (fun i j=>decide (i≤j)) (fun i j=>decide (i<j)) (dC (.int 0)) δ ε ρ=M.ret (.bl (decide (0≤i)&&decide (i<n))):=by
 simp only[vQ,dC,h,h2,aj,gI]
 cases decide (0≤i)<;>rfl
theorem ux{bd:List Str}{W:Nat}(hg:Brd bd W){d:D}(h:Plain2 d):iA [brd bd,d]=M.ret (.bl (EN bd.length W d)):=by
 refine aX ?_
 have hρ:([brd bd,d].map (fun d=>some (Sl.fz d))++List.replicate (2 - [brd bd,d].length) none)=[fz (brd bd),fz d]:=rfl
 rw[hρ]
 have hv:dV 1 [fz (brd bd),fz d]=M.ret d:=rfl
 have no:isTup d=false→ro [fz (brd bd),fz d]=M.ret (.rt (.bl false)):=fun hs=>by
  refine dw (eP ?_ (aD rfl))
  simp only[kE,b6,bH,dA,aC,aN,dC,hv,aj,mO h.plain,hs,vp,Bool.not_false,if_true]
 cases d with
 |tup ds=>
  have hi:b6 (bH (dA gF (aC (dV 1) (aC (dC (.raw (.ty "tuple"))) aN)))) [fz (brd bd),fz (.tup ds)]=M.ret false:=by
   simp only[b6,bH,dA,aC,aN,dC,hv,aj,mO h.plain,isTup,vp,Bool.not_true]
  have k:((ds.length:Int)==2)=(ds.length==2):=lT ds.length 2
  have hl:kE (b6 (bH (dA gF (aC (dV 1) (aC (dC (.raw (.ty "tuple"))) aN))))) (df (d2 mB (dA bt (aC (dV 1) aN)) (dC (.int 2)))) [fz (brd bd),fz (.tup ds)]=M.ret (!(ds.length==2)):=by
   unfold kE
   rw[hi]
   simp only[df,d2,dA,aC,aN,dC,hv,aj,DN,ne_int,k,z4,Bool.false_eq_true,if_false]
  match ds,h,hl with
  |[],h,hl=>exact dw (eP hl (aD rfl))
  |[_],h,hl=>exact dw (eP hl (aD rfl))
  |_::_::_::_,h,hl=>
   refine dw (eP (hl.trans ?_) (aD rfl))
   simp
  |[u,v],h,hl=>
   refine ar (cu hl rfl) ?_
   have pu:Plain u:=h u (by simp)
   have pv:Plain v:=h v (by simp)
   have w1:ak 1 bj (aC (d2 a_ (dV 1) (dC (.int 0))) aN) [fz (brd bd),fz (.tup [u,v])]=M.ret (.bl (gA u)):=rn pu
   have w2:ak 1 bj (aC (d2 a_ (dV 1) (dC (.int 1))) aN) [fz (brd bd),fz (.tup [u,v])]=M.ret (.bl (gA v)):=rn pv
   have hw:kE (b6 (bH (ak 1 bj (aC (d2 a_ (dV 1) (dC (.int 0))) aN)))) (b6 (bH (ak 1 bj (aC (d2 a_ (dV 1) (dC (.int 1))) aN)))) [fz (brd bd),fz (.tup [u,v])]=M.ret (!(gA u&&gA v)):=by
    unfold kE b6 bH
    rw[w1,w2]
    simp only[aj,vp]
    cases gA u<;>cases gA v<;>rfl
   have bad:(gA u&&gA v)=false→aG (fk (kE (b6 (bH (ak 1 bj (aC (d2 a_ (dV 1) (dC (.int 0))) aN)))) (b6 (bH (ak 1 bj (aC (d2 a_ (dV 1) (dC (.int 1))) aN))))) (bc (dC (.bl false))) b_) (bc (dE (vQ (fun i j=>decide (i≤j)) (fun i j=>decide (i<j)) (dC (.int 0)) (d2 a_ (dV 1) (dC (.int 0))) (dA bt (aC (dV 0) aN))) (vQ (fun i j=>decide (i≤j)) (fun i j=>decide (i<j)) (dC (.int 0)) (d2 a_ (dV 1) (dC (.int 1))) (dA bt (aC (d2 a_ (dV 0) (dC (.int 0))) aN))))) [fz (brd bd),fz (.tup [u,v])]=M.ret (.rt (.bl false)):=fun hz=>by
    rw[hz] at hw
    exact dw (eP hw (aD rfl))
   match u,v,hw,bad with
   | .int a, .int b,hw,bad=>
     refine ar (cu hw rfl) (aD ?_)
     obtain⟨x0,r,e0⟩:∃x0 r,bd=x0::r:=by
      have:=hg.r1
      cases bd with
      |nil=>simp at this
      |cons x r=>exact⟨x,r,rfl⟩
     have hx:x0.length=W:=(hg.rows x0 (by rw[e0];simp)).len
     have l0:dA bt (aC (dV 0) aN) [fz (brd bd),fz (.tup [.int a, .int b])]=M.ret (.int (bd.length:Int)):=by
      show M.ret (D.int ((bd.map D.str).length:Int))=_
      rw[List.length_map]
     have l1:dA bt (aC (d2 a_ (dV 0) (dC (.int 0))) aN) [fz (brd bd),fz (.tup [.int a, .int b])]=M.ret (.int (W:Int)):=by
      have i0:a_ (brd bd) (.int 0)=M.ret (.str x0):=LS (r:=r.map D.str) (by rw[e0];rfl)
      simp only[dA,aC,aN,d2,dC,dV,List.getElem?_cons_zero,aj,i0,len_str,hx]
     have c1:=Ia (δ:=d2 a_ (dV 1) (dC (.int 0))) (i:=a) rfl l0
     have c2:=Ia (δ:=d2 a_ (dV 1) (dC (.int 1))) (i:=b) rfl l1
     unfold dE
     rw[c1,aj]
     show (if (decide (0≤a)&&decide (a<(bd.length:Int)))=true then _ else _)=M.ret (D.bl ((decide (0≤a)&&decide (a<(bd.length:Int)))&&(decide (0≤b)&&decide (b<(W:Int)))))
     cases (decide (0≤a)&&decide (a<(bd.length:Int)))
     ·rfl
     ·rw[if_pos rfl,c2,Bool.true_and]
   | .non,_,_,bad=>exact bad rfl
   | .bl _,_,_,bad=>exact bad rfl
   | .str _,_,_,bad=>exact bad rfl
   | .tup _,_,_,bad=>exact bad rfl
   | .lst _,_,_,bad=>exact bad rfl
   | .raw _,_,_,_=>exact pu.elim
   | .exc _,_,_,_=>exact pu.elim
   | .scr _,_,_,_=>exact pu.elim
   | .int a, .non,_,bad=>exact bad rfl
   | .int a, .bl _,_,bad=>exact bad rfl
   | .int a, .str _,_,bad=>exact bad rfl
   | .int a, .tup _,_,bad=>exact bad rfl
   | .int a, .lst _,_,bad=>exact bad rfl
   | .int a, .raw _,_,_=>exact pv.elim
   | .int a, .exc _,_,_=>exact pv.elim
   | .int a, .scr _,_,_=>exact pv.elim
 |non=>exact no rfl
 |bl b=>exact no rfl
 |int b=>exact no rfl
 |str b=>exact no rfl
 |lst b=>exact no rfl
 |raw _=>exact h.elim
 |exc _=>exact h.elim
 |scr _=>exact h.elim
 |dct _ _=>exact h.elim
 |dci _ _=>exact h.elim
abbrev Cell:=Nat×Nat
def cD(c:Cell):D:= .tup [.int (c.1:Int), .int (c.2:Int)]
def On(R W:Nat)(c:Cell):Prop:=c.1<R∧c.2<W
instance {R W:Nat}{c:Cell}:Decidable (On R W c):=by unfold On;infer_instance
theorem Ag{c:Cell}:Plain2 (cD c):=fun d hd=>by
 have:d= .int (c.1:Int)∨d= .int (c.2:Int):=by simpa[cD] using hd
 rcases this with rfl | rfl<;>trivial
theorem C_{R W:Nat}{c:Cell}(h:On R W c):EN R W (cD c)=true:=by
 show ((decide ((0:Int)≤(c.1:Int))&&decide ((c.1:Int)<(R:Int)))&&(decide ((0:Int)≤(c.2:Int))&&decide ((c.2:Int)<(W:Int))))=true
 obtain⟨h1,h2⟩:=h
 simp
 omega
theorem Brd.nc{bd:List Str}{W:Nat}(hg:Brd bd W){c:Cell}(h:On bd.length W c):dU [brd bd,cD c]=M.ret .non:=by
 refine sR (ρ:=[fz (brd bd),fz (cD c)]) (cu (ni (ja (b:=true) ?_)) rfl)
 refine(ah (ds:=[brd bd,cD c]) rfl rfl).trans ?_
 rw[ux hg Ag,C_ h]
def Ways(w:Nat):Prop:=w=4∨w=8
theorem Ways.nw{w:Nat}(h:Ways w):eW [.int (w:Int)]=M.ret .non:=by
 rcases h with rfl | rfl<;>rfl
def ch(x:Str)(j:Nat):Nat:=x.cps.toList.getD j 0
def at2(bd:List Str)(i j:Nat):Nat:=ch (bd.getD i ⟨#[]⟩) j
abbrev lt(bd:List Str)(c:Cell):Nat:=at2 bd c.1 c.2
def sg(n:Nat):D:= .str ⟨#[n]⟩
theorem yt{x:Str}{c:Nat}(h:c<x.length):gE (.str x) (.int (c:Int))=M.ret (sg (ch x c)):=by
 have h':c<x.cps.toList.length:=by rw[Array.length_toList];exact h
 show (match L2.atI x.cps.toList (c:Int) with | some c=>M.ret (D.str ⟨#[c]⟩) | none=>M.stuck)=_
 rw[gG (List.getElem?_eq_getElem h')]
 unfold sg ch
 rw[List.getD_eq_getElem?_getD,List.getElem?_eq_getElem h']
 rfl
theorem getD_mem{bd:List Str}{i:Nat}(h:i<bd.length):bd.getD i ⟨#[]⟩∈bd:=by
 rw[List.getD_eq_getElem?_getD,List.getElem?_eq_getElem h]
 exact List.getElem_mem h
theorem A9{bd:List Str}{i:Nat}(h:i<bd.length):a_ (brd bd) (.int (i:Int))=M.ret (.str (bd.getD i ⟨#[]⟩)):=by
 show (match L2.atI (bd.map D.str) (i:Int) with | some d=>M.ret d | none=>M.stuck)=_
 rw[gG (x:= .str (bd.getD i ⟨#[]⟩)) ?_]
 rw[List.getElem?_map,List.getElem?_eq_getElem h,List.getD_eq_getElem?_getD,List.getElem?_eq_getElem h]
 rfl
theorem iV{bd:List Str}{W:Nat}(hg:Brd bd W){c:Cell}(h:On bd.length W c):da [brd bd,cD c]=M.ret (sg (lt bd c)):=by
 refine aX (aD ?_)
 refine(aJ (x:= .str (bd.getD c.1 ⟨#[]⟩)) (y:= .int (c.2:Int)) ((aJ (x:=brd bd) (y:= .int (c.1:Int)) rfl rfl).trans (A9 h.1)) rfl).trans ?_
 exact yt (by rw[(hg.rows _ (getD_mem h.1)).len];exact h.2)
theorem Ij(a b:Nat):mz (sg a) (sg b)=M.ret (.bl (decide (a=b))):=by
 show M.ret (D.bl (decide ((⟨#[a]⟩:Str)=⟨#[b]⟩)))=_
 congr 2
 by_cases h:a=b
 ·subst h;simp
 ·have:¬((⟨#[a]⟩:Str)=⟨#[b]⟩):=fun z=>by
   injection z with z
   exact h (by simpa using z)
  rw[decide_eq_false h,decide_eq_false this]
def gc(a b:Nat):Nat:=max a b - min a b
def n9(w:Nat)(a b:Cell):Bool:=if w=4 then decide (gc a.1 b.1+gc a.2 b.2=1) else decide (max (gc a.1 b.1) (gc a.2 b.2)=1)
theorem xp(a b:Nat):z8 [.int ((a:Int) - (b:Int))]=M.ret (.int (gc a b:Int)):=by
 show M.ret (D.int _)=_
 congr 2
 unfold gc
 omega
theorem rB{w:Nat}(hw:Ways w)(a b:Cell):c6 [cD a,cD b, .int (w:Int)]=M.ret (.bl (n9 w a b)):=by
 refine aX ?_
 refine ar (ρ':=[fz (cD a),fz (cD b),fz (.int (w:Int)),fz (.int (gc a.1 b.1:Int)),none]) ((aZ (d:= .int (gc a.1 b.1:Int)) (xp a.1 b.1)).trans rfl) ?_
 refine ar (ρ':=[fz (cD a),fz (cD b),fz (.int (w:Int)),fz (.int (gc a.1 b.1:Int)),fz (.int (gc a.2 b.2:Int))]) ((aZ (d:= .int (gc a.2 b.2:Int)) (xp a.2 b.2)).trans rfl) ?_
 rcases hw with rfl | rfl
 ·refine dw (eP (fC rfl) (aD ?_))
  show M.ret (D.bl (((gc a.1 b.1:Int)+(gc a.2 b.2:Int))==1))=_
  unfold n9
  rw[if_pos rfl]
  congr 2
  have:((gc a.1 b.1:Int)+(gc a.2 b.2:Int))=((gc a.1 b.1+gc a.2 b.2:Nat):Int):=by omega
  rw[this]
  have e:=lT (gc a.1 b.1+gc a.2 b.2) 1
  exact e.trans rfl
 ·refine ar (cu (fC rfl) rfl) (aD ?_)
  show M.ret (D.bl ((if (gc a.1 b.1:Int)<(gc a.2 b.2:Int) then(gc a.2 b.2:Int) else(gc a.1 b.1:Int))==1))=_
  have hn:n9 8 a b=decide (max (gc a.1 b.1) (gc a.2 b.2)=1):=rfl
  rw[hn]
  congr 2
  have:(if (gc a.1 b.1:Int)<(gc a.2 b.2:Int) then(gc a.2 b.2:Int) else(gc a.1 b.1:Int))=((max (gc a.1 b.1) (gc a.2 b.2):Nat):Int):=by split<;>omega
  rw[this]
  have e:=lT (max (gc a.1 b.1) (gc a.2 b.2)) 1
  exact e.trans rfl
theorem Bw(w:Nat)(a b:Cell):n9 w a b=n9 w b a:=by
 have e:∀x y:Nat,gc x y=gc y x:=fun x y=>by unfold gc;omega
 unfold n9
 rw[e a.1,e a.2]
theorem fH{put:D→aY→Option aY}{body:DS}{d:D}{ds:List D}{ρ ρ1 ρ2:aY}(h1:put d ρ=some ρ1)(h2:body ρ1=M.ret (.nx ρ2)):forL put body (d::ds) ρ=forL put body ds ρ2:=by
 show (match put d ρ with | none=>M.stuck | some ρ1=>body ρ1>>=fun o=>match o with | .nx ρ2=>forL put body ds ρ2 | .rt v=>M.ret (.rt v))=_
 rw[h1]
 show (body ρ1>>=fun o=>match o with | .nx ρ2=>forL put body ds ρ2 | .rt v=>M.ret (.rt v))=_
 rw[h2]
 rfl
section
variable{α σ:Type}{put:D→aY→Option aY}{body:DS}
theorem iC(enc:α→D)(mk:σ→aY)(step:σ→α→σ)(I:σ→Prop):∀(xs:List α) (s:σ),I s→(∀s,I s→∀x∈xs,I (step s x)∧∃ρ1,put (enc x) (mk s)=some ρ1∧body ρ1=M.ret (.nx (mk (step s x))))→
 I (xs.foldl step s)∧forL put body (xs.map enc) (mk s)=M.ret (.nx (mk (xs.foldl step s)))
 |[],s,h,_=>⟨h,rfl⟩
 |x::xs,s,h,st=>by
  obtain⟨h2,ρ1,e1,e2⟩:=st s h x (List.mem_cons_self ..)
  obtain⟨h3,e3⟩:=iC enc mk step I xs (step s x) h2 fun s hs y hy=>st s hs y (List.mem_cons_of_mem _ hy)
  exact⟨h3,(fH e1 e2).trans e3⟩
theorem kJ(enc:α→D)(ρ:aY):∀(xs:List α),(∀x∈xs,∃ρ1,put (enc x) ρ=some ρ1∧body ρ1=M.ret (.nx ρ))→forL put body (xs.map enc) ρ=M.ret (.nx ρ)
 |[],_=>rfl
 |x::xs,st=>by
  obtain⟨ρ1,e1,e2⟩:=st x (List.mem_cons_self ..)
  exact(fH e1 e2).trans (kJ enc ρ xs fun y hy=>st y (List.mem_cons_of_mem _ hy))
theorem gP(enc:α→D)(mk:List D→aY)(g:α→List D){B:Nat}:∀(xs:List α) (acc:List D),(acc++xs.flatMap g).length≤B→(∀x∈xs,∀acc,(acc++g x).length≤B→∃ρ1,put (enc x) (mk acc)=some ρ1∧body ρ1=M.ret (.nx (mk (acc++g x))))→
 forL put body (xs.map enc) (mk acc)=M.ret (.nx (mk (acc++xs.flatMap g)))
 |[],acc,_,_=>by simp;rfl
 |x::xs,acc,hB,st=>by
  have MI:((acc++g x)++xs.flatMap g).length≤B:=by simpa[List.flatMap_cons,List.append_assoc] using hB
  obtain⟨ρ1,e1,e2⟩:=st x (List.mem_cons_self ..) acc (Nat.le_trans (by simp only[List.length_append];omega) MI)
  have e3:=gP enc mk g xs (acc++g x) MI fun y hy=>st y (List.mem_cons_of_mem _ hy)
  rw[List.map_cons,fH e1 e2,e3,List.flatMap_cons,List.append_assoc]
end
theorem h7{put:D→aY→Option aY}{δi:DA}{b:DS}{ρ:aY}{ds:List D}{m:M Out}(h:δi ρ=M.ret ds)(h2:forL put b ds ρ=m):fj put δi b ρ=m:=by
 unfold fj
 rw[h]
 exact h2
theorem el{τ:DS}{ρ:aY}{o:Out}(h:τ ρ=M.ret o):(fun ρ=>noex (τ ρ)) ρ=M.ret o:=by
 show noex (τ ρ)=_
 rw[h]
 rfl
theorem u_(lo n:Nat):fY (lo:Int) n=(List.range' lo n).map fun(k:Nat)=>D.int (k:Int):=by
 unfold fY
 rw[List.range_eq_range']
 have:∀(n a:Nat),(List.range' a n).map (fun (i:Nat)=>D.int ((lo:Int)+(i:Int)))=(List.range' (lo+a) n).map fun(k:Nat)=>D.int (k:Int):=by
  intro n
  induction n with
  |zero=>intro a;rfl
  |succ n ih=>
   intro a
   rw[List.range'_succ,List.range'_succ,List.map_cons,List.map_cons,ih (a+1)]
   rfl
 exact this n 0
theorem JL{δ:DE}{ρ:aY}{n:Nat}(h:δ ρ=M.ret (.int (n:Int)))(hn:n≤4096):(aC δ aN ρ>>=ke)=M.ret ((List.range n).map fun(k:Nat)=>D.int (k:Int)):=by
 rw[aE h rfl,aj,lg hn,show fY 0 n=fY ((0:Nat):Int) n from rfl,u_,List.range_eq_range']
theorem JM{δ ε:DE}{ρ:aY}{i j:Nat}(h:δ ρ=M.ret (.int (i:Int)))(h2:ε ρ=M.ret (.int (j:Int)))(hi:i≤4096)(hj:j≤4096):(aC δ (aC ε aN) ρ>>=q_)=M.ret ((List.range' i (j - i)).map fun(k:Nat)=>D.int (k:Int)):=by
 rw[aE h (aE h2 rfl),aj]
 show (if (-4096≤(i:Int)∧(i:Int)≤4096)∧(-4096≤(j:Int)∧(j:Int)≤4096) then M.ret (fY (i:Int) ((j:Int) - (i:Int)).toNat) else M.stuck)=_
 rw[if_pos ⟨⟨by omega,by omega⟩,by omega,by omega⟩,show ((j:Int) - (i:Int)).toNat=j - i by omega,u_]
def eO(W r:Nat):List Cell:=(List.range W).map fun k=>(r,k)
def aH(R W:Nat):List Cell:=(List.range R).flatMap (eO W)
theorem aS{R W:Nat}{c:Cell}:c∈aH R W↔On R W c:=by
 unfold aH eO On
 simp only[List.mem_flatMap,List.mem_range,List.mem_map]
 constructor
 ·rintro⟨r,hr,k,hk,rfl⟩;exact⟨hr,hk⟩
 ·rintro⟨h1,h2⟩;exact⟨c.1,h1,c.2,h2,rfl⟩
theorem c7(R W:Nat):(aH R W).length=R*W:=by
 unfold aH
 have:∀l:List Nat,(l.flatMap (eO W)).length=l.length*W:=by
  intro l
  induction l with
  |nil=>simp
  |cons a l ih=>rw[List.flatMap_cons,List.length_append,ih,List.length_cons,Nat.succ_mul];simp[eO];omega
 rw[this,List.length_range]
theorem kG{bd:List Str}{W:Nat}(hg:Brd bd W)(r:Nat):bQ [brd bd, .int (r:Int)]=M.ret (.lst ((eO W r).map cD)):=by
 have:=hg.w8
 refine aX (aD (bC (JL (n:=W) (hg.len0 rfl) (by omega)) ?_ (by simp[eO,dD];omega)))
 rw[show (eO W r).map cD=((List.range W).map fun(k:Nat)=>D.int (k:Int)).map (fun e=> .tup [.int (r:Int),e]) by simp[eO,List.map_map];intro a _;rfl]
 exact fG (g:=fun e=> .tup [.int (r:Int),e]) _ fun e _=>rfl
theorem iQ{bd:List Str}{W:Nat}(hg:Brd bd W):cz [brd bd]=M.ret (.lst ((aH bd.length W).map cD)):=by
 have h8:=hg.r8
 have w8:=hg.w8
 have hm:bd.length*W≤64:=Nat.mul_le_mul h8 w8
 have Kc:(List.range bd.length).flatMap (fun r=>(eO W r).map cD)=(aH bd.length W).map cD:=by
  unfold aH;rw[List.map_flatMap]
 have e:=gP (put:=putN 2) (body:=du [2] (Cg 1 (ak 2 bQ (aC (dV 0) (aC (dV 2) aN))))) (fun (k:Nat)=>D.int (k:Int)) (fun acc=>[fz (brd bd),some (.ow (.lst acc)),none]) (fun r=>(eO W r).map cD) (B:=64) (List.range bd.length) []
  (by rw[List.nil_append,Kc,List.length_map,c7];exact hm) fun r hr acc hB=>by
   refine⟨[fz (brd bd),some (.ow (.lst acc)),fz (.int (r:Int))],rfl,?_⟩
   refine(bJ (ρ':=[fz (brd bd),some (.ow (.lst (acc++(eO W r).map cD))),fz (.int (r:Int))]) ?_).trans rfl
   show (bQ [brd bd, .int (r:Int)]>>=fun d=>lstM d>>=fun es=>if acc.length+es.length≤lim then M.ret (Out.nx (List.set [fz (brd bd),some (.ow (.lst acc)),fz (.int (r:Int))] 1 (some (.ow (.lst (acc++es)))))) else M.stuck)=_
   rw[kG hg,aj]
   show (if acc.length+((eO W r).map cD).length≤lim then M.ret (Out.nx [fz (brd bd),some (.ow (.lst (acc++(eO W r).map cD))),fz (.int (r:Int))]) else M.stuck)=_
   rw[if_pos (by rw[List.length_append] at hB;rw[dD];omega)]
 rw[List.nil_append,Kc] at e
 refine aX (ar (ρ':=[fz (brd bd),some (.ow (.lst [])),none]) rfl (ar (ρ':=[fz (brd bd),some (.ow (.lst ((aH bd.length W).map cD))),none]) (el (h7 (JL (n:=bd.length) (Be rfl) (by omega)) e)) ?_))
 rfl
def g0(R W w:Nat)(c:Cell):List Cell:=
 (List.range' (c.1 - 1) (min (c.1+2) R - (c.1 - 1))).flatMap fun r=>((List.range' (c.2 - 1) (min (c.2+2) W - (c.2 - 1))).map fun k=>(r,k)).filter (n9 w c)
theorem qz{R W w:Nat}(hw:Ways w){c x:Cell}:x∈g0 R W w c↔On R W x∧n9 w c x=true:=by
 unfold g0 On
 simp only[List.mem_flatMap,List.mem_filter,List.mem_map,List.mem_range'_1]
 constructor
 ·rintro⟨r,⟨h1,h2⟩,⟨k,⟨h3,h4⟩,rfl⟩,h5⟩
  refine⟨⟨?_,?_⟩,h5⟩
  ·show r<R;omega
  ·show k<W;omega
 ·rintro⟨⟨h1,h2⟩,h5⟩
  have h6:gc c.1 x.1≤1∧gc c.2 x.2≤1:=by
   unfold n9 at h5
   rcases hw with rfl | rfl
   ·rw[if_pos rfl] at h5;have:=of_decide_eq_true h5;omega
   ·rw[if_neg (by decide)] at h5;have:=of_decide_eq_true h5;omega
  unfold gc at h6
  exact⟨x.1,⟨by omega,by omega⟩,⟨x.2,⟨by omega,by omega⟩,rfl⟩,h5⟩
theorem qu(R W w:Nat)(c:Cell):(g0 R W w c).length≤9:=by
 unfold g0
 rw[List.length_flatMap]
 have h:∀r,(((List.range' (c.2 - 1) (min (c.2+2) W - (c.2 - 1))).map fun k=>(r,k)).filter (n9 w c)).length≤3:=fun r=>by
  refine Nat.le_trans (List.length_filter_le ..) ?_
  rw[List.length_map,List.length_range']
  omega
 have:∀(l:List Nat),(l.map fun r=>(((List.range' (c.2 - 1) (min (c.2+2) W - (c.2 - 1))).map fun k=>(r,k)).filter (n9 w c)).length).sum≤3*l.length:=by
  intro l
  induction l with
  |nil=>simp
  |cons a l ih=>rw[List.map_cons,List.sum_cons,List.length_cons];have:=h a;omega
 refine Nat.le_trans (this _) ?_
 rw[List.length_range']
 omega
abbrev nc(b c w:D)(acc:List D)(x4 x5:Option Sl):aY:=[fz b,fz c,fz w,some (.ow (.lst acc)),x4,x5]
theorem n6{bd:List Str}{W w:Nat}(hg:Brd bd W)(hw:Ways w){c:Cell}(hc:On bd.length W c):cH [brd bd,cD c, .int (w:Int)]=M.ret (.lst ((g0 bd.length W w c).map cD)):=by
 have h8:=hg.r8
 have w8:=hg.w8
 obtain⟨c1,c2⟩:=hc
 have IT:∀n:Nat,wj [.int ((n:Int) - 1), .int 0]=M.ret (.int ((n - 1:Nat):Int)):=fun n=>by
  show M.ret (D.int (if (0:Int)>(n:Int) - 1 then 0 else(n:Int) - 1))=_
  congr 2
  split<;>omega
 have IU:∀n m:Nat,zk [.int ((n:Int)+2), .int (m:Int)]=M.ret (.int ((min (n+2) m:Nat):Int)):=fun n m=>by
  show M.ret (D.int (if (m:Int)<(n:Int)+2 then(m:Int) else(n:Int)+2))=_
  congr 2
  split<;>omega
 have inner:∀(r:Nat) (acc:List D),acc.length≤16→forL (putN 5) (du [5] (fk (bH (ak 3 c6 (aC (dV 1) (aC (dA bB (aC (dV 4) (aC (dV 5) aN))) (aC (dV 2) aN))))) (mI 3 (dA bB (aC (dV 4) (aC (dV 5) aN)))) b_))
  ((List.range' (c.2 - 1) (min (c.2+2) W - (c.2 - 1))).map fun(k:Nat)=>D.int (k:Int)) (nc (brd bd) (cD c) (.int (w:Int)) acc (fz (.int (r:Int))) none)=
  M.ret (.nx (nc (brd bd) (cD c) (.int (w:Int)) (acc++(List.range' (c.2 - 1) (min (c.2+2) W - (c.2 - 1))).flatMap fun k=>if n9 w c (r,k) then [cD (r,k)] else []) (fz (.int (r:Int))) none)):=fun r acc pD=>by
  refine gP (fun (k:Nat)=>D.int (k:Int)) (fun acc=>nc (brd bd) (cD c) (.int (w:Int)) acc (fz (.int (r:Int))) none) (fun k=>if n9 w c (r,k) then [cD (r,k)] else []) (B:=64) _ acc ?_ fun k hk acc hB=>?_
  ·rw[List.length_append,List.length_flatMap]
   have:∀l:List Nat,(l.map fun k=>(if n9 w c (r,k) then [cD (r,k)] else []).length).sum≤l.length:=by
    intro l
    induction l with
    |nil=>simp
    |cons a l ih=>rw[List.map_cons,List.sum_cons,List.length_cons];split<;>simp<;>omega
   have h2:=this (List.range' (c.2 - 1) (min (c.2+2) W - (c.2 - 1)))
   rw[List.length_range'] at h2
   omega
  ·refine⟨nc (brd bd) (cD c) (.int (w:Int)) acc (fz (.int (r:Int))) (fz (.int (k:Int))),rfl,?_⟩
   have ht:bH (ak 3 c6 (aC (dV 1) (aC (dA bB (aC (dV 4) (aC (dV 5) aN))) (aC (dV 2) aN)))) (nc (brd bd) (cD c) (.int (w:Int)) acc (fz (.int (r:Int))) (fz (.int (k:Int))))=M.ret (n9 w c (r,k)):=
    ja ((ah (ds:=[cD c,cD (r,k), .int (w:Int)]) rfl rfl).trans (rB hw c (r,k)))
   cases hn:n9 w c (r,k) with
   |true=>
    rw[hn] at ht
    rw[hn,if_pos rfl,List.length_append] at hB
    refine(bJ (ρ':=nc (brd bd) (cD c) (.int (w:Int)) (acc++[cD (r,k)]) (fz (.int (r:Int))) (fz (.int (k:Int)))) (eP ht ?_)).trans rfl
    show (if acc.length<lim then M.ret (Out.nx (nc (brd bd) (cD c) (.int (w:Int)) (acc++[cD (r,k)]) (fz (.int (r:Int))) (fz (.int (k:Int))))) else M.stuck)=_
    rw[if_pos (by rw[dD];simp at hB;omega)]
   |false=>
    rw[hn] at ht
    refine(bJ (ρ':=nc (brd bd) (cD c) (.int (w:Int)) acc (fz (.int (r:Int))) (fz (.int (k:Int)))) (cu ht rfl)).trans ?_
    simp
    rfl
 have flt:∀r,((List.range' (c.2 - 1) (min (c.2+2) W - (c.2 - 1))).flatMap fun k=>if n9 w c (r,k) then [cD (r,k)] else [])=(((List.range' (c.2 - 1) (min (c.2+2) W - (c.2 - 1))).map fun k=>(r,k)).filter (n9 w c)).map cD:=fun r=>by
  generalize List.range' (c.2 - 1) (min (c.2+2) W - (c.2 - 1))=l
  induction l with
  |nil=>rfl
  |cons a l ih=>
   rw[List.flatMap_cons,ih,List.map_cons,List.filter_cons]
   cases n9 w c (r,a)<;>rfl
 have tot:(List.range' (c.1 - 1) (min (c.1+2) bd.length - (c.1 - 1))).flatMap (fun r=>(((List.range' (c.2 - 1) (min (c.2+2) W - (c.2 - 1))).map fun k=>(r,k)).filter (n9 w c)).map cD)=(g0 bd.length W w c).map cD:=by
  unfold g0;rw[List.map_flatMap]
 have outer:=gP (put:=putN 4) (body:=du [4,5] (fj (putN 5) (fun ρ=>(aC (dA wj (aC (d2 d5 (d2 a_ (dV 1) (dC (.int 1))) (dC (.int 1))) (aC (dC (.int 0)) aN))) (aC (dA zk (aC (d2 bX (d2 a_ (dV 1) (dC (.int 1))) (dC (.int 2))) (aC (dA bt (aC (d2 a_ (dV 0) (dC (.int 0))) aN)) aN))) aN)) ρ>>=q_) (du [5] (fk (bH (ak 3 c6 (aC (dV 1) (aC (dA bB (aC (dV 4) (aC (dV 5) aN))) (aC (dV 2) aN))))) (mI 3 (dA bB (aC (dV 4) (aC (dV 5) aN)))) b_))))
  (fun (k:Nat)=>D.int (k:Int)) (fun acc=>nc (brd bd) (cD c) (.int (w:Int)) acc none none) (fun r=>(((List.range' (c.2 - 1) (min (c.2+2) W - (c.2 - 1))).map fun k=>(r,k)).filter (n9 w c)).map cD) (B:=16) (List.range' (c.1 - 1) (min (c.1+2) bd.length - (c.1 - 1))) []
  (by rw[List.nil_append,tot,List.length_map];have:=qu bd.length W w c;omega) fun r hr acc hB=>by
   refine⟨nc (brd bd) (cD c) (.int (w:Int)) acc (fz (.int (r:Int))) none,rfl,?_⟩
   have e:=inner r acc (by rw[List.length_append] at hB;omega)
   rw[flt r] at e
   refine(bJ (h7 (JM (i:=c.2 - 1) (j:=min (c.2+2) W) ?_ ?_ (by omega) (by omega)) e)).trans rfl
   ·exact(cQ (xs:=[.int ((c.2:Int) - 1), .int 0]) rfl).trans (IT c.2)
   ·refine(cQ (xs:=[.int ((c.2:Int)+2), .int (W:Int)]) ?_).trans (IU c.2 W)
    exact aE (show d2 bX (d2 a_ (dV 1) (dC (.int 1))) (dC (.int 2)) (nc (brd bd) (cD c) (.int (w:Int)) acc (fz (.int (r:Int))) none)=M.ret (.int ((c.2:Int)+2)) from rfl) (aE (hg.len0 rfl) rfl)
 rw[List.nil_append,tot] at outer
 refine aX (ar (ρ':=nc (brd bd) (cD c) (.int (w:Int)) [] none none) rfl (ar (ρ':=nc (brd bd) (cD c) (.int (w:Int)) ((g0 bd.length W w c).map cD) none none) (el (h7 (JM (i:=c.1 - 1) (j:=min (c.1+2) bd.length) ?_ ?_ (by omega) (by omega)) outer)) ?_))
 ·exact(cQ (xs:=[.int ((c.1:Int) - 1), .int 0]) rfl).trans (IT c.1)
 ·refine(cQ (xs:=[.int ((c.1:Int)+2), .int (bd.length:Int)]) ?_).trans (IU c.1 bd.length)
  exact aE (show d2 bX (d2 a_ (dV 1) (dC (.int 0))) (dC (.int 2)) (nc (brd bd) (cD c) (.int (w:Int)) [] none none)=M.ret (.int ((c.1:Int)+2)) from rfl) (aE (Be rfl) rfl)
 ·rfl
def a8(bd:List Str)(W w:Nat)(c:Cell):List Cell:=(g0 bd.length W w c).filter fun x=>decide (lt bd x=lt bd c)
theorem eC{bd:List Str}{W w:Nat}(hw:Ways w){c x:Cell}:x∈a8 bd W w c↔On bd.length W x∧n9 w c x=true∧lt bd x=lt bd c:=by
 unfold a8
 rw[List.mem_filter,qz hw,decide_eq_true_eq,and_assoc]
theorem zi(bd:List Str)(W w:Nat)(c:Cell):(a8 bd W w c).length≤9:=Nat.le_trans (List.length_filter_le ..) (qu ..)
theorem iz{α:Type}{f:D→M (Option D)}(enc:α→D)(p:α→Bool):∀(xs:List α),(∀x∈xs,f (enc x)=M.ret (if p x then some (enc x) else none))→cj f (xs.map enc)=M.ret ((xs.filter p).map enc)
 |[],_=>rfl
 |x::xs,h=>by
  rw[List.map_cons,cy,h x (List.mem_cons_self ..),aj,iz enc p xs fun y hy=>h y (List.mem_cons_of_mem _ hy),List.filter_cons]
  cases p x<;>rfl
theorem nT{bd:List Str}{W w:Nat}(hg:Brd bd W)(hw:Ways w){c:Cell}(hc:On bd.length W c):bV [brd bd,cD c, .int (w:Int)]=M.ret (.lst ((a8 bd W w c).map cD)):=by
 refine aX (ar (ρ':=[fz (brd bd),fz (cD c),fz (.int (w:Int)),fz (sg (lt bd c))]) ((aZ (d:=sg (lt bd c)) ((ah (ds:=[brd bd,cD c]) rfl rfl).trans (iV hg hc))).trans rfl) (aD ?_))
 refine bC (ds:=(g0 bd.length W w c).map cD) ?_ (iz cD _ _ fun x hx=>?_) (by rw[List.length_map,dD];exact Nat.le_trans (zi bd W w c) (by decide))
 ·show (ak 3 cH _ _>>=lstM)=_
  have e:ak 3 cH (aC (dV 0) (aC (dV 1) (aC (dV 2) aN))) [fz (brd bd),fz (cD c),fz (.int (w:Int)),fz (sg (lt bd c))]=M.ret (.lst ((g0 bd.length W w c).map cD)):=n6 hg hw hc
  rw[e]
  rfl
 ·have O6:=(qz hw).mp hx
  rw[vR]
  have e:df (d2 mz (ak 2 da (aC (dV 1) (aC (dV 0) aN))) (dV 4)) (fz (cD x)::[fz (brd bd),fz (cD c),fz (.int (w:Int)),fz (sg (lt bd c))])=M.ret (decide (lt bd x=lt bd c)):=by
   refine fC ?_
   exact(aJ (x:=sg (lt bd x)) (y:=sg (lt bd c)) ((ah (ds:=[brd bd,cD x]) rfl rfl).trans (iV hg O6.1)) rfl).trans (Ij _ _)
  rw[e,aj]
  cases decide (lt bd x=lt bd c)<;>rfl
end K1
namespace K1
section
variable{α:Type}[DecidableEq α]
structure Bk (α:Type) where
 ks:List α
 ps:List (Option α)
 fu:List α
def dS(c:α)(s:Bk α)(x:α):Bk α:=if x∈s.ks then s else⟨s.ks++[x],s.ps++[some c],s.fu++[x]⟩
variable(nb:α→List α)
def lD(s:Bk α)(c:α):Bk α:=(nb c).foldl (dS c) s
def cg(s:Bk α)(ring:List α):Bk α:=ring.foldl (lD nb) s
def Rb(a:α):Nat→α→Prop
 |0,x=>x=a
 |k+1,x=>Rb a k x∨∃y,Rb a k y∧x∈nb y
variable{nb}{a:α}
theorem Rb.mono{i j:Nat}{x:α}(h:i≤j)(r:Rb nb a i x):Rb nb a j x:=by
 induction h with
 |refl=>exact r
 |step _ ih=>exact .inl ih
structure Grown (P:α→α→Prop) (s t:Bk α):Prop where
 ex:∃fs:List (α×α),t.ks=s.ks++fs.map (·.1)∧t.ps=s.ps++fs.map (fun p=>some p.2)∧t.fu=s.fu++fs.map (·.1)∧(∀p∈fs,P p.2 p.1)
 nd:s.ks.Nodup→t.ks.Nodup
theorem Grown.refl{P:α→α→Prop}(s:Bk α):Grown P s s:=⟨⟨[],by simp,by simp,by simp,fun _ h=>by cases h⟩,id⟩
theorem Grown.trans{P:α→α→Prop}{s t u:Bk α}(h1:Grown P s t)(h2:Grown P t u):Grown P s u:=by
 obtain⟨fs,a1,a2,a3,a4⟩:=h1.ex
 obtain⟨gs,b1,b2,b3,b4⟩:=h2.ex
 refine⟨⟨fs++gs,by rw[b1,a1];simp,by rw[b2,a2];simp,by rw[b3,a3];simp,fun p hp=>?_⟩,fun h=>h2.nd (h1.nd h)⟩
 rcases List.mem_append.mp hp with h | h
 ·exact a4 p h
 ·exact b4 p h
theorem tQ{P:α→α→Prop}{c x:α}(s:Bk α)(h:P c x):Grown P s (dS c s x):=by
 unfold dS
 split
 ·exact Grown.refl s
 ·rename_i hx
  refine⟨⟨[(x,c)],rfl,rfl,rfl,fun p hp=>?_⟩,fun hn=>?_⟩
  ·have:p=(x,c):=by simpa using hp
   subst this;exact h
  ·refine List.nodup_append.mpr ⟨hn,by simp,fun y hy z hz e=>?_⟩
   have hz:z=x:=by simpa using hz
   rw[e,hz] at hy
   exact hx hy
theorem yD{c x y:α}(s:Bk α):y∈(dS c s x).ks↔y∈s.ks∨y=x:=by
 unfold dS
 split
 ·rename_i hx
  exact⟨.inl,fun h=>h.elim id fun e=>by rw[e];exact hx⟩
 ·simp
theorem foldStep{P:α→α→Prop}{c:α}:∀(l:List α) (s:Bk α),(∀x∈l,P c x)→Grown P s (l.foldl (dS c) s)∧∀y,y∈(l.foldl (dS c) s).ks↔y∈s.ks∨y∈l
 |[],s,_=>⟨Grown.refl s,fun y=>by simp⟩
 |x::l,s,h=>by
  obtain⟨h1,h2⟩:=foldStep l (dS c s x) fun y hy=>h y (List.mem_cons_of_mem _ hy)
  refine⟨(tQ s (h x (List.mem_cons_self ..))).trans h1,fun y=>?_⟩
  rw[List.foldl_cons,h2 y,yD]
  simp[or_assoc]
theorem ua{P:α→α→Prop}:∀(l:List α) (s:Bk α),(∀c∈l,∀x∈nb c,P c x)→Grown P s (cg nb s l)∧∀y,y∈(cg nb s l).ks↔y∈s.ks∨∃c∈l,y∈nb c
 |[],s,_=>⟨Grown.refl s,fun y=>by simp[cg]⟩
 |c::l,s,h=>by
  obtain⟨g1,m1⟩:=foldStep (P:=P) (c:=c) (nb c) s (h c (List.mem_cons_self ..))
  obtain⟨g2,m2⟩:=ua l (lD nb s c) fun c' hc=>h c' (List.mem_cons_of_mem _ hc)
  refine⟨g1.trans g2,fun y=>?_⟩
  show y∈(cg nb (lD nb s c) l).ks↔_
  rw[m2 y]
  show (y∈((nb c).foldl (dS c) s).ks∨_)↔_
  rw[m1 y]
  simp[or_assoc]
structure Rng (nb:α→List α) (a:α) (k:Nat) (ks:List α) (ps:List (Option α)) (ring:List α):Prop where
 len:ks.length=ps.length
 nd:ks.Nodup
 mem:∀x,x∈ks↔Rb nb a k x
 rg:∀x,x∈ring↔Rb nb a k x∧∀j,Rb nb a j x→k≤j
 par:∀x p,(x,some p)∈ks.zip ps→x∈nb p∧p∈ks∧∀j,Rb nb a j x→∃i,j=i+1∧Rb nb a i p
 non:∀x,(x,none)∈ks.zip ps→x=a
 sz:k≤ks.length∧(ring≠[]→k+1≤ks.length)
theorem Rng.zero(nb:α→List α)(a:α):Rng nb a 0 [a] [none] [a] where
 len:=rfl
 nd:=by simp
 mem:=fun x=>by simp[Rb]
 rg:=fun x=>by simp[Rb]
 par:=fun x p h=>by simp at h
 non:=fun x h=>by simpa using h
 sz:=⟨by simp,fun _=>by simp⟩
theorem Rng.next{k:Nat}{ks:List α}{ps:List (Option α)}{ring:List α}(h:Rng nb a k ks ps ring)(hr:ring≠[]):Rng nb a (k+1) (cg nb ⟨ks,ps,[]⟩ ring).ks (cg nb ⟨ks,ps,[]⟩ ring).ps (cg nb ⟨ks,ps,[]⟩ ring).fu:=by
 obtain⟨g,m⟩:=ua (nb:=nb) (P:=fun c x=>c∈ring∧x∈nb c) ring ⟨ks,ps,[]⟩ fun c hc x hx=>⟨hc,hx⟩
 obtain⟨fs,e1,e2,e3,e4⟩:=g.ex
 have C1:=g.nd h.nd
 have hm:∀x,x∈(cg nb ⟨ks,ps,[]⟩ ring).ks↔Rb nb a (k+1) x:=fun x=>by
  rw[m x]
  show (x∈ks∨_)↔(Rb nb a k x∨_)
  constructor
  ·rintro(q | ⟨c,hc,hx⟩)
   ·exact .inl ((h.mem x).mp q)
   ·exact .inr ⟨c,((h.rg c).mp hc).1,hx⟩
  ·rintro(q | ⟨y,hy,hx⟩)
   ·exact .inl ((h.mem x).mpr q)
   ·by_cases hk:∀j,Rb nb a j y→k≤j
    ·exact .inr ⟨y,(h.rg y).mpr ⟨hy,hk⟩,hx⟩
    ·refine .inl ((h.mem x).mpr ?_)
     obtain⟨j,hj⟩:=Classical.not_forall.mp hk
     obtain⟨Lf,Ov⟩:=Classical.not_imp.mp hj
     exact Rb.mono (i:=j+1) (by omega) (.inr ⟨y,Lf,hx⟩)
 have z5:(cg nb ⟨ks,ps,[]⟩ ring).ks=ks++fs.map (·.1):=e1
 have HG:(cg nb ⟨ks,ps,[]⟩ ring).ps=ps++fs.map (fun p=>some p.2):=e2
 have J5:(cg nb ⟨ks,ps,[]⟩ ring).fu=fs.map (·.1):=e3
 have new:∀x,x∈fs.map (·.1)→¬Rb nb a k x:=fun x hx hk=>by
  rw[z5] at C1
  exact(List.nodup_append.mp C1).2.2 x ((h.mem x).mpr hk) x hx rfl
 have Ji:∀x,¬Rb nb a k x→∀j,Rb nb a j x→k+1≤j:=fun x hx j hj=>by
  by_cases Ow:k+1≤j
  ·exact Ow
  ·exact absurd (Rb.mono (by omega) hj) hx
 have Jb:(cg nb ⟨ks,ps,[]⟩ ring).ks.zip (cg nb ⟨ks,ps,[]⟩ ring).ps=ks.zip ps++fs.map fun p=>(p.1,some p.2):=by
  rw[z5,HG,List.zip_append h.len]
  congr 1
  rw[List.zip_map']
 refine⟨?_,C1,hm,fun x=>?_,fun x p hp=>?_,fun x hx=>?_,?_⟩
 ·rw[z5,HG,List.length_append,List.length_append,List.length_map,List.length_map,h.len]
 ·rw[J5]
  constructor
  ·intro hx
   exact⟨(hm x).mp (by rw[z5];exact List.mem_append_right _ hx),Ji x (new x hx)⟩
  ·rintro⟨h1,h2⟩
   have h3:=(hm x).mpr h1
   rw[z5] at h3
   rcases List.mem_append.mp h3 with q | q
   ·have:=h2 k ((h.mem x).mp q)
    omega
   ·exact q
 ·rw[Jb] at hp
  rcases List.mem_append.mp hp with q | q
  ·obtain⟨q1,q2,q3⟩:=h.par x p q
   exact⟨q1,by rw[z5];exact List.mem_append_left _ q2,q3⟩
  ·obtain⟨f,hf,e⟩:=List.mem_map.mp q
   cases e
   obtain⟨f1,f2⟩:=e4 f hf
   have hc:=(h.rg f.2).mp f1
   refine⟨f2,by rw[z5];exact List.mem_append_left _ ((h.mem _).mpr hc.1),fun j hj=>?_⟩
   have:=Ji f.1 (new f.1 (List.mem_map.mpr ⟨f,hf,rfl⟩)) j hj
   exact⟨j - 1,by omega,Rb.mono (by omega) hc.1⟩
 ·rw[Jb] at hx
  rcases List.mem_append.mp hx with q | q
  ·exact h.non x q
  ·obtain⟨f,hf,e⟩:=List.mem_map.mp q
   cases e
 ·have hs:=h.sz.2 hr
  rw[z5,List.length_append,List.length_map]
  refine⟨by omega,fun fL=>?_⟩
  have:fs≠[]:=fun z=>fL (by rw[J5,z];rfl)
  have:=List.length_pos_iff.mpr this
  omega
theorem Rng.last{k:Nat}{ks:List α}{ps:List (Option α)}(h:Rng nb a k ks ps []):∀x,x∈ks↔∃j,Rb nb a j x:=by
 have none:∀x,¬(Rb nb a k x∧∀j,Rb nb a j x→k≤j):=fun x q=>by
  have:=(h.rg x).mpr q
  cases this
 have hk:∀x,Rb nb a k x→∃i,i<k∧Rb nb a i x:=fun x hx=>by
  by_cases q:∀j,Rb nb a j x→k≤j
  ·exact absurd ⟨hx,q⟩ (none x)
  ·obtain⟨j,hj⟩:=Classical.not_forall.mp q
   obtain⟨Lf,Ov⟩:=Classical.not_imp.mp hj
   exact⟨j,by omega,Lf⟩
 have all:∀j x,Rb nb a j x→Rb nb a k x:=by
  intro j
  induction j with
  |zero=>intro x hx;exact Rb.mono (Nat.zero_le _) hx
  |succ j ih=>
   rintro x (q | ⟨y,hy,hx⟩)
   ·exact ih x q
   ·obtain⟨i,hi,hr⟩:=hk y (ih y hy)
    exact Rb.mono (i:=i+1) (by omega) (.inr ⟨y,hr,hx⟩)
 exact fun x=>⟨fun q=>⟨k,(h.mem x).mp q⟩,fun⟨j,hj⟩=>(h.mem x).mpr (all j x hj)⟩
theorem jV{l U:List α}(hn:l.Nodup)(h:∀x∈l,x∈U):l.length≤U.length:=by
 induction l generalizing U with
 |nil=>simp
 |cons a l ih=>
  rw[List.nodup_cons] at hn
  have hl:∀x∈l,x∈U.erase a:=fun x hx=>by
   have fL:x≠a:=fun z=>hn.1 (by rw[←z];exact hx)
   exact(List.mem_erase_of_ne fL).mpr (h x (List.mem_cons_of_mem _ hx))
  have h1:=ih hn.2 hl
  have h2:=List.length_erase_of_mem (h a (List.mem_cons_self ..))
  have h3:=List.length_pos_of_mem (h a (List.mem_cons_self ..))
  rw[List.length_cons]
  omega
end
end K1
namespace K1
open PySem L2 L3
def keyOf(c:Cell):List Key:=[.inl (c.1:Int), .inl (c.2:Int)]
theorem fN{a b:Cell}(h:keyOf a=keyOf b):a=b:=by
 unfold keyOf at h
 injection h with h1 h2
 injection h1 with h1
 injection h2 with h2 _
 injection h2 with h2
 exact Prod.ext (Int.ofNat.inj h1) (Int.ofNat.inj h2)
theorem mP(c:Cell):eM (cD c)=some (keyOf c):=rfl
theorem iI{c:Cell}:∀{ks:List Cell}{ds:List D},c∉ks→d4 (ks.map keyOf) ds (keyOf c)=none
 |[],_,_=>by simp[d4]
 |k::ks,[],_=>by simp[d4]
 |k::ks,d::ds,h=>by
  rw[List.map_cons]
  unfold d4
  rw[if_neg (fun z=>h (by rw[fN z];exact List.mem_cons_self ..))]
  exact iI fun z=>h (List.mem_cons_of_mem _ z)
theorem lA{c:Cell}:∀{ks:List Cell}{ds:List D},ks.length=ds.length→c∈ks→∃d,d4 (ks.map keyOf) ds (keyOf c)=some d∧(c,d)∈ks.zip ds
 |[],_,_,h=>by cases h
 |k::ks,[],hl,_=>by simp at hl
 |k::ks,d::ds,hl,h=>by
  rw[List.map_cons]
  unfold d4
  by_cases hk:k=c
  ·subst hk
   rw[if_pos rfl]
   exact⟨d,rfl,by simp⟩
  ·rw[if_neg (fun z=>hk (fN z))]
   have hc:c∈ks:=by
    rcases List.mem_cons.mp h with q | q
    ·exact absurd q.symm hk
    ·exact q
   obtain⟨d',e1,e2⟩:=lA (ds:=ds) (by simpa using hl) hc
   exact⟨d',e1,by simp[e2]⟩
theorem xU{neg:Bool}{ks:List Cell}{ds:List D}{c:Cell}(hl:ks.length=ds.length):jc neg (cD c) (.dct (ks.map keyOf) ds)=M.ret (.bl (if neg then !decide (c∈ks) else decide (c∈ks))):=by
 show (match (eM (cD c)).map (d4 (ks.map keyOf) ds) with | some o=>M.ret (D.bl (if neg then !o.isSome else o.isSome)) | none=>M.stuck)=_
 rw[mP]
 show M.ret (D.bl (if neg then !(d4 (ks.map keyOf) ds (keyOf c)).isSome else(d4 (ks.map keyOf) ds (keyOf c)).isSome))=_
 by_cases h:c∈ks
 ·obtain⟨d,e,_⟩:=lA hl h
  rw[e,decide_eq_true h];rfl
 ·rw[iI h,decide_eq_false h];rfl
theorem u3{ks:List Cell}{ds:List D}{c:Cell}{d:D}(h:c∉ks)(hl:ds.length<lim):j8 (.dct (ks.map keyOf) ds) (cD c) d=some (.dct ((ks++[c]).map keyOf) (ds++[d])):=by
 show (match eM (cD c) with | some kk=>if ds.length<lim then some (C.dct (cW (ks.map keyOf) ds kk) (b8 (ks.map keyOf) ds kk d)) else none | none=>none)=_
 rw[mP]
 show (if ds.length<lim then some (C.dct (cW (ks.map keyOf) ds (keyOf c)) (b8 (ks.map keyOf) ds (keyOf c) d)) else none)=_
 rw[if_pos hl]
 unfold cW b8
 rw[iI h]
 simp
theorem Fl{τ:DT}{ρ:aY}{b:Bool}(h:τ (yS ρ)=M.ret b):CJ τ ρ=M.ret b:=by
 unfold CJ
 rw[h]
 rfl
theorem CP{c:DT}{body:DS}{n:Nat}{ρ ρ':aY}{m:M Out}(h1:c ρ=M.ret true)(h2:body ρ=M.ret (.nx ρ'))(h3:d7 c body n ρ'=m):d7 c body (n+1) ρ=m:=by
 show (c ρ>>=fun b=>if b then body ρ>>=fun o=>match o with | .nx ρ'=>d7 c body n ρ' | .rt d=>M.ret (.rt d) else M.ret (.nx ρ))=_
 rw[h1,aj,if_pos rfl,h2]
 exact h3
theorem CO{c:DT}{body:DS}{n:Nat}{ρ:aY}(h1:c ρ=M.ret false):d7 c body (n+1) ρ=M.ret (.nx ρ):=by
 show (c ρ>>=fun b=>if b then body ρ>>=fun o=>match o with | .nx ρ'=>d7 c body n ρ' | .rt d=>M.ret (.rt d) else M.ret (.nx ρ))=_
 rw[h1]
 rfl
def BF:Option Cell→D
 |none=> .non
 |some c=>cD c
abbrev Ae(ks:List Cell)(ps:List (Option Cell)):C:= .dct (ks.map keyOf) (ps.map BF)
abbrev xx(ks:List Cell)(ps:List (Option Cell)):D:= .dct (ks.map keyOf) (ps.map BF)
abbrev sb(b s w:D)(ks:List Cell)(ps:List (Option Cell))(x4 x5 x6 x7:Option Sl):aY:=[fz b,fz s,fz w,some (.ow (Ae ks ps)),x4,x5,x6,x7]
structure Bok (R W:Nat) (s:Bk Cell):Prop where
 len:s.ks.length=s.ps.length
 nd:s.ks.Nodup
 on:∀x∈s.ks,On R W x
 fu:s.fu.length≤s.ks.length
theorem Bok.le{R W:Nat}{s:Bk Cell}(h:Bok R W s):s.ks.length≤R*W:=by
 rw[←c7 R W]
 exact jV h.nd fun x hx=>aS.mpr (h.on x hx)
theorem Bok.step{R W:Nat}{s:Bk Cell}(h:Bok R W s){c x:Cell}(hx:On R W x):Bok R W (dS c s x):=by
 unfold dS
 split
 ·exact h
 ·rename_i hn
  refine⟨by simp[h.len],?_,fun y hy=>?_,by simp;exact h.fu⟩
  ·refine List.nodup_append.mpr ⟨h.nd,by simp,fun y hy z hz e=>?_⟩
   have hz:z=x:=by simpa using hz
   rw[e,hz] at hy
   exact hn hy
  ·rcases List.mem_append.mp hy with q | q
   ·exact h.on y q
   ·have:y=x:=by simpa using q
    rw[this];exact hx
def Hl:DS:=du [7] (fk (CJ (df (d2 (jc true) (dV 7) (dV 3)))) (aG (ma 3 (dV 7) (dV 6)) (mI 5 (dV 7))) b_)
theorem Et{bd:List Str}{W:Nat}(hg:Brd bd W){a c x:Cell}{w:D}{r:Option Sl}{s:Bk Cell}(h:Bok bd.length W s):
 Hl (sb (brd bd) (cD a) w s.ks s.ps r (some (.ow (.lst (s.fu.map cD)))) (fz (cD c)) (fz (cD x)))=M.ret (.nx (sb (brd bd) (cD a) w (dS c s x).ks (dS c s x).ps r (some (.ow (.lst ((dS c s x).fu.map cD)))) (fz (cD c)) none)):=by
 have hle:=h.le
 have hm:bd.length*W≤64:=Nat.mul_le_mul hg.r8 hg.w8
 have ht:CJ (df (d2 (jc true) (dV 7) (dV 3))) (sb (brd bd) (cD a) w s.ks s.ps r (some (.ow (.lst (s.fu.map cD)))) (fz (cD c)) (fz (cD x)))=M.ret (!decide (x∈s.ks)):=
  Fl (fC ((aJ (x:=cD x) (y:=xx s.ks s.ps) rfl rfl).trans (xU (neg:=true) (by rw[List.length_map];exact h.len))))
 by_cases hx:x∈s.ks
 ·rw[decide_eq_true hx] at ht
  have e:dS c s x=s:=if_pos hx
  rw[e]
  exact(bJ (cu ht rfl)).trans rfl
 ·rw[decide_eq_false hx] at ht
  have e:dS c s x=⟨s.ks++[x],s.ps++[some c],s.fu++[x]⟩:=if_neg hx
  rw[e]
  refine(bJ (ρ':=sb (brd bd) (cD a) w (s.ks++[x]) (s.ps++[some c]) r (some (.ow (.lst ((s.fu++[x]).map cD)))) (fz (cD c)) (fz (cD x))) (eP ht (ar (ρ':=sb (brd bd) (cD a) w (s.ks++[x]) (s.ps++[some c]) r (some (.ow (.lst (s.fu.map cD)))) (fz (cD c)) (fz (cD x))) ?_ ?_))).trans rfl
  ·show (match j8 (Ae s.ks s.ps) (cD x) (cD c) with | some c'=>M.ret (Out.nx (List.set (sb (brd bd) (cD a) w s.ks s.ps r (some (.ow (.lst (s.fu.map cD)))) (fz (cD c)) (fz (cD x))) 3 (some (.ow c')))) | none=>M.stuck)=_
   rw[u3 hx (by rw[List.length_map,←h.len,dD];omega)]
   rw[show s.ps.map BF++[cD c]=(s.ps++[some c]).map BF by simp[BF]]
   rfl
  ·show (if (s.fu.map cD).length<lim then M.ret (Out.nx (sb (brd bd) (cD a) w (s.ks++[x]) (s.ps++[some c]) r (some (.ow (.lst (s.fu.map cD++[cD x])))) (fz (cD c)) (fz (cD x)))) else M.stuck)=_
   have:=h.fu
   rw[if_pos (by rw[List.length_map,dD];omega)]
   rw[show s.fu.map cD++[cD x]=(s.fu++[x]).map cD by simp]
def Hk:DS:=du [6,7] (fj (putN 7) (i_ (ak 3 bV (aC (dV 0) (aC (dV 6) (aC (dV 2) aN))))) Hl)
theorem yr{bd:List Str}{W w:Nat}(hg:Brd bd W)(hw:Ways w){a c:Cell}(hc:On bd.length W c){r:Option Sl}{s:Bk Cell}(h:Bok bd.length W s):
 Bok bd.length W (lD (a8 bd W w) s c)∧Hk (sb (brd bd) (cD a) (.int (w:Int)) s.ks s.ps r (some (.ow (.lst (s.fu.map cD)))) (fz (cD c)) none)=
  M.ret (.nx (sb (brd bd) (cD a) (.int (w:Int)) (lD (a8 bd W w) s c).ks (lD (a8 bd W w) s c).ps r (some (.ow (.lst ((lD (a8 bd W w) s c).fu.map cD)))) none none)):=by
 obtain⟨h1,e⟩:=iC (put:=putN 7) (body:=Hl) cD (fun s:Bk Cell=>sb (brd bd) (cD a) (.int (w:Int)) s.ks s.ps r (some (.ow (.lst (s.fu.map cD)))) (fz (cD c)) none) (dS c) (Bok bd.length W) (a8 bd W w c) s h fun s hs x hx=>
  ⟨hs.step ((eC hw).mp hx).1,_,rfl,Et hg hs⟩
 refine⟨h1,(bJ (h7 ?_ e)).trans rfl⟩
 show (ak 3 bV (aC (dV 0) (aC (dV 6) (aC (dV 2) aN))) (sb (brd bd) (cD a) (.int (w:Int)) s.ks s.ps r (some (.ow (.lst (s.fu.map cD)))) (fz (cD c)) none)>>=lstM)=_
 have e2:ak 3 bV (aC (dV 0) (aC (dV 6) (aC (dV 2) aN))) (sb (brd bd) (cD a) (.int (w:Int)) s.ks s.ps r (some (.ow (.lst (s.fu.map cD)))) (fz (cD c)) none)=M.ret (.lst ((a8 bd W w c).map cD)):=nT hg hw hc
 rw[e2]
 rfl
def JR:DS:=du [5,6,7] (aG (wU 5) (aG (fj (putN 6) (i_ (dV 4)) Hk) (Cj 5 (cx 4 (dV 5)))))
theorem Es{bd:List Str}{W w:Nat}(hg:Brd bd W)(hw:Ways w){a:Cell}{ring:List Cell}(hr:∀c∈ring,On bd.length W c){s:Bk Cell}(h:Bok bd.length W s)(hf:s.fu=[]):
 Bok bd.length W (cg (a8 bd W w) s ring)∧JR (sb (brd bd) (cD a) (.int (w:Int)) s.ks s.ps (fz (.lst (ring.map cD))) none none none)=
  M.ret (.nx (sb (brd bd) (cD a) (.int (w:Int)) (cg (a8 bd W w) s ring).ks (cg (a8 bd W w) s ring).ps (fz (.lst ((cg (a8 bd W w) s ring).fu.map cD))) none none none)):=by
 obtain⟨h1,e⟩:=iC (put:=putN 6) (body:=Hk) cD (fun s:Bk Cell=>sb (brd bd) (cD a) (.int (w:Int)) s.ks s.ps (fz (.lst (ring.map cD))) (some (.ow (.lst (s.fu.map cD)))) none none) (lD (a8 bd W w)) (Bok bd.length W) ring s h fun s hs c hc=>
  ⟨(yr (a:=a) (r:=fz (.lst (ring.map cD))) hg hw (hr c hc) hs).1,_,rfl,(yr hg hw (hr c hc) hs).2⟩
 refine⟨h1,(bJ (ρ':=sb (brd bd) (cD a) (.int (w:Int)) (cg (a8 bd W w) s ring).ks (cg (a8 bd W w) s ring).ps (fz (.lst ((cg (a8 bd W w) s ring).fu.map cD))) (fz (.lst ((cg (a8 bd W w) s ring).fu.map cD))) none none) ?_).trans rfl⟩
 refine ar (ρ':=sb (brd bd) (cD a) (.int (w:Int)) s.ks s.ps (fz (.lst (ring.map cD))) (some (.ow (.lst []))) none none) rfl (ar (ρ':=sb (brd bd) (cD a) (.int (w:Int)) (cg (a8 bd W w) s ring).ks (cg (a8 bd W w) s ring).ps (fz (.lst (ring.map cD))) (some (.ow (.lst ((cg (a8 bd W w) s ring).fu.map cD)))) none none) ?_ rfl)
 rw[hf] at e
 exact h7 rfl e
theorem va{bd:List Str}{W w:Nat}(hg:Brd bd W)(hw:Ways w){a:Cell}(ha:On bd.length W a):∀(fuel k:Nat) (ks:List Cell) (ps:List (Option Cell)) (ring:List Cell),bd.length*W+2≤fuel+k→Rng (a8 bd W w) a k ks ps ring→(∀x∈ks,On bd.length W x)→
 ∃k' ks' Kn,Rng (a8 bd W w) a k' ks' Kn []∧(∀x∈ks',On bd.length W x)∧d7 (bH (dV 4)) JR fuel (sb (brd bd) (cD a) (.int (w:Int)) ks ps (fz (.lst (ring.map cD))) none none none)=M.ret (.nx (sb (brd bd) (cD a) (.int (w:Int)) ks' Kn (fz (.lst [])) none none none))
 |0,k,ks,ps,ring,hf,hR,y6=>by
  have h1:ks.length≤bd.length*W:=by
   rw[←c7 bd.length W]
   exact jV hR.nd fun x hx=>aS.mpr (y6 x hx)
  have:=hR.sz.1
  omega
 |fuel+1,k,ks,ps,[],hf,hR,y6=>⟨k,ks,ps,hR,y6,CO rfl⟩
 |fuel+1,k,ks,ps,c::ring,hf,hR,y6=>by
  have fL:c::ring≠[]:=by simp
  have hN:=hR.next fL
  have LA:∀x∈c::ring,On bd.length W x:=fun x hx=>y6 x ((hR.mem x).mpr ((hR.rg x).mp hx).1)
  obtain⟨hb,e⟩:=Es (a:=a) hg hw LA (s:=⟨ks,ps,[]⟩) ⟨hR.len,hR.nd,y6,Nat.zero_le _⟩ rfl
  obtain⟨k',ks',Kn,q1,q2,q3⟩:=va hg hw ha fuel (k+1) _ _ _ (by omega) hN hb.on
  exact⟨k',ks',Kn,q1,q2,CP rfl e q3⟩
theorem o3{bd:List Str}{W w:Nat}(hg:Brd bd W)(hw:Ways w){a:Cell}(ha:On bd.length W a):
 ∃k ks ps,Rng (a8 bd W w) a k ks ps []∧(∀x∈ks,On bd.length W x)∧bW [brd bd,cD a, .int (w:Int)]=M.ret (xx ks ps):=by
 have hm:bd.length*W≤64:=Nat.mul_le_mul hg.r8 hg.w8
 obtain⟨k,ks,ps,h1,h2,h3⟩:=va hg hw ha lim 0 [a] [none] [a] (by rw[dD];omega) (Rng.zero _ _) (fun x hx=>(show x=a by simpa using hx)▸ha)
 refine⟨k,ks,ps,h1,h2,aX (ar (ρ':=[fz (brd bd),fz (cD a),fz (.int (w:Int)),some (.ow (Ae [a] [none])),none,none,none,none]) rfl (ar (ρ':=sb (brd bd) (cD a) (.int (w:Int)) [a] [none] (fz (.lst [cD a])) none none none) rfl (ar (ρ':=sb (brd bd) (cD a) (.int (w:Int)) ks ps (fz (.lst [])) none none none) (el h3) rfl)))⟩
def iP{α:Type}[DecidableEq α](n:Nat)(enc:α→D):Prop:=∀k x y,jz (n+k) (enc x) (enc y)=some (decide (x=y))
theorem xF(n:Nat)(i j:Int):jz n (.int i) (.int j)=some (i==j):=by cases n<;>rfl
theorem Dl(n:Nat)(i j:Str):jz n (.str i) (.str j)=some (i==j):=by cases n<;>rfl
theorem rP{α:Type}[DecidableEq α]{enc:α→D}{f:D→D→Option Bool}(h:∀x y,f (enc x) (enc y)=some (decide (x=y))):∀(xs ys:List α),nv f (xs.map enc) (ys.map enc)=some (decide (xs=ys))
 |[],[]=>rfl
 |[],_::_=>by simp[nv]
 |_::_,[]=>by simp[nv]
 |x::xs,y::ys=>by
  rw[List.map_cons,List.map_cons]
  show (match f (enc x) (enc y),nv f (xs.map enc) (ys.map enc) with | some b,some r=>some (b&&r) | _,_=>none)=_
  rw[h,rP h xs ys]
  show some (decide (x=y)&&decide (xs=ys))=_
  congr 1
  by_cases h1:x=y<;>by_cases h2:xs=ys<;>simp[h1,h2]
theorem Az:iP 1 cD:=fun k a b=>by
 rw[Nat.add_comm]
 show (match jz k (.int (a.1:Int)) (.int (b.1:Int)),nv (jz k) [.int (a.2:Int)] [.int (b.2:Int)] with | some b,some r=>some (b&&r) | _,_=>none)=_
 rw[xF]
 show (match some ((a.1:Int)==(b.1:Int)),(match jz k (.int (a.2:Int)) (.int (b.2:Int)),nv (jz k) [] [] with | some b,some r=>some (b&&r) | _,_=>none) with | some b,some r=>some (b&&r) | _,_=>none)=_
 rw[xF]
 show some (((a.1:Int)==(b.1:Int))&&(((a.2:Int)==(b.2:Int))&&true))=_
 rw[lT,lT,Bool.and_true]
 congr 1
 obtain⟨a1,a2⟩:=a
 obtain⟨b1,b2⟩:=b
 by_cases h1:a1=b1<;>by_cases h2:a2=b2<;>simp[h1,h2]
theorem mM{α:Type}[DecidableEq α]{enc:α→D}{n:Nat}(h:iP n enc):iP (n+1) (fun l:List α=> .lst (l.map enc)):=fun k x y=>by
 rw[show n+1+k=(n+k)+1 by omega]
 exact rP (h k) x y
theorem Di{α:Type}[DecidableEq α]{enc:α→D}{n:Nat}(h:iP n enc):iP (n+1) (fun l:List α=> .tup (l.map enc)):=fun k x y=>by
 rw[show n+1+k=(n+k)+1 by omega]
 exact rP (h k) x y
theorem Dh:iP 0 D.str:=fun k x y=>by
 rw[Dl]
 congr 1
theorem gf:iP 1 brd:=Di Dh
theorem vU{α:Type}[DecidableEq α]{enc:α→D}{n:Nat}(h:iP n enc)(hn:n≤6)(x y:α):mz (enc x) (enc y)=M.ret (.bl (decide (x=y))):=by
 have:=h (6 - n) x y
 rw[show n+(6 - n)=6 by omega] at this
 unfold mz
 rw[this]
theorem kI{α:Type}[DecidableEq α]{enc:α→D}{n:Nat}(h:iP n enc)(hn:n≤6)(x y:α):mB (enc x) (enc y)=M.ret (.bl (!decide (x=y))):=by
 have:=h (6 - n) x y
 rw[show n+(6 - n)=6 by omega] at this
 unfold mB
 rw[this]
abbrev cL(l:List Cell):D:= .lst (l.map cD)
theorem yd(a b:List Cell):mB (cL a) (cL b)=M.ret (.bl (!decide (a=b))):=kI (mM Az) (by decide) a b
def ic(c:Cell):List Int:=[(c.1:Int),(c.2:Int)]
def Ao(a b:Cell):Bool:=if a.1=b.1 then decide (a.2<b.2) else decide (a.1<b.1)
def DC(k:Cell):List Cell→List Cell
 |[]=>[k]
 |x::r=>if Ao k x then k::x::r else x::DC k r
def i5:List Cell→List Cell
 |[]=>[]
 |k::r=>DC k (i5 r)
theorem wd(a b:Cell):di (ic a) (ic b)=Ao a b:=by
 show (if (a.1:Int)=(b.1:Int) then(if (a.2:Int)=(b.2:Int) then false else decide ((a.2:Int)<(b.2:Int))) else decide ((a.1:Int)<(b.1:Int)))=_
 unfold Ao
 by_cases h:a.1=b.1
 ·rw[if_pos h,if_pos (by omega)]
  by_cases h2:a.2=b.2
  ·rw[if_pos (by omega),h2];simp
  ·rw[if_neg (by omega)]
   by_cases h3:a.2<b.2
   ·rw[decide_eq_true h3,decide_eq_true (by omega)]
   ·rw[decide_eq_false h3,decide_eq_false (by omega)]
 ·rw[if_neg h,if_neg (by omega)]
  by_cases h3:a.1<b.1
  ·rw[decide_eq_true h3,decide_eq_true (by omega)]
  ·rw[decide_eq_false h3,decide_eq_false (by omega)]
theorem A5(k:Cell):∀l:List Cell,insI (ic k) (l.map ic)=(DC k l).map ic
 |[]=>rfl
 |x::r=>by
  rw[List.map_cons]
  unfold insI DC
  rw[wd]
  cases Ao k x with
  |true=>rfl
  |false=>rw[if_neg (by decide),if_neg (by decide),List.map_cons,A5 k r]
theorem iH:∀l:List Cell,sortI (l.map ic)=(i5 l).map ic
 |[]=>rfl
 |k::r=>by
  rw[List.map_cons]
  unfold sortI i5
  rw[iH r,A5]
theorem rZ{a b:Cell}(h:ic a=ic b):a=b:=by
 unfold ic at h
 injection h with h1 h2
 injection h2 with h2 _
 exact Prod.ext (Int.ofNat.inj h1) (Int.ofNat.inj h2)
theorem kT{x:Cell}{l:List Cell}:x∈i5 l↔x∈l:=by
 have h:=cM (x:=ic x) (l:=l.map ic)
 rw[iH] at h
 constructor
 ·intro hx
  obtain⟨y,hy,e⟩:=List.mem_map.mp (h.mp (List.mem_map.mpr ⟨x,hx,rfl⟩))
  rw[←rZ e];exact hy
 ·intro hx
  obtain⟨y,hy,e⟩:=List.mem_map.mp (h.mpr (List.mem_map.mpr ⟨x,hx,rfl⟩))
  rw[←rZ e];exact hy
def RiseC(l:List Cell):Prop:=l.Pairwise fun a b=>Ao a b=true
theorem sQ{l:List Cell}:vI (l.map ic)↔RiseC l:=by
 unfold vI RiseC
 rw[List.pairwise_map]
 constructor<;>intro h<;>refine List.Pairwise.imp ?_ h<;>intro a b q
 ·rw[←wd];exact q
 ·rw[wd];exact q
theorem uF{l:List Cell}(h:l.Nodup):(l.map ic).Nodup:=by
 unfold List.Nodup at h⊢
 rw[List.pairwise_map]
 exact List.Pairwise.imp (fun h z=>h (rZ z)) h
theorem jr{l:List Cell}(h:l.Nodup):RiseC (i5 l):=by
 have:=eR (uF h)
 rw[iH] at this
 exact sQ.mp this
theorem la{a b:List Cell}(ha:RiseC a)(hb:RiseC b)(h:∀x,x∈a↔x∈b):a=b:=by
 have e:=kc (sQ.mpr ha) (sQ.mpr hb) fun x=>by
  constructor
  ·intro hx
   obtain⟨y,hy,rfl⟩:=List.mem_map.mp hx
   exact List.mem_map.mpr ⟨y,(h y).mp hy,rfl⟩
  ·intro hx
   obtain⟨y,hy,rfl⟩:=List.mem_map.mp hx
   exact List.mem_map.mpr ⟨y,(h y).mpr hy,rfl⟩
 have inj:∀(a b:List Cell),a.map ic=b.map ic→a=b:=by
  intro a
  induction a with
  |nil=>intro b h;cases b with
   |nil=>rfl
   |cons=>simp at h
  |cons x a ih=>intro b h;cases b with
   |nil=>simp at h
   |cons y b=>
    rw[List.map_cons,List.map_cons] at h
    injection h with h1 h2
    rw[rZ h1,ih b h2]
 exact inj a b e
theorem RiseC.nodup{l:List Cell}(h:RiseC l):l.Nodup:=by
 refine List.Pairwise.imp ?_ h
 intro a b q z
 subst z
 unfold Ao at q
 rw[if_pos rfl] at q
 have:=of_decide_eq_true q
 omega
theorem kO:∀ks:List Cell,eK (ks.map keyOf)=some (ks.map ic)
 |[]=>rfl
 |k::r=>by
  show (match ql (keyOf k),eK (r.map keyOf) with | some x,some xs=>some (x::xs) | _,_=>none)=_
  rw[kO r]
  rfl
theorem By{ks:List Cell}(h:ks.Nodup)(hl:ks.length<64):cC (ks.map ic)=true:=by
 unfold cC
 rw[List.length_map,decide_eq_true (uF h),decide_eq_true hl]
 simp
 intro a b _ z
 cases z
theorem CA{ks:List Cell}{ds:List D}(h:ks.Nodup)(hl:ks.length<64):rh [.dct (ks.map keyOf) ds]=M.ret (cL (i5 ks)):=by
 show (match eK (ks.map keyOf) with | some ks=>if cC ks&&ks.all (fun k=>decide (k.length≤lim)) then M.ret (D.lst ((sortI ks).map tupI)) else M.stuck | none=>M.stuck)=_
 rw[kO]
 show (if cC (ks.map ic)&&(ks.map ic).all (fun k=>decide (k.length≤lim)) then M.ret (D.lst ((sortI (ks.map ic)).map tupI)) else M.stuck)=_
 rw[By h hl]
 have:(ks.map ic).all (fun k=>decide (k.length≤lim))=true:=by
  simp
  intro a b _
  show 2≤lim
  decide
 rw[this,Bool.and_true,if_pos rfl,iH,List.map_map]
 rfl
def Cn(bd:List Str)(W w:Nat)(a b:Cell):Prop:=∃j,Rb (a8 bd W w) a j b
theorem Cn.refl{bd:List Str}{W w:Nat}{a:Cell}:Cn bd W w a a:=⟨0,rfl⟩
theorem wg{bd:List Str}{W w:Nat}(hw:Ways w){a b:Cell}(ha:On bd.length W a)(h:b∈a8 bd W w a):a∈a8 bd W w b:=by
 obtain⟨h1,h2,h3⟩:=(eC hw).mp h
 exact(eC hw).mpr ⟨ha,by rw[Bw];exact h2,h3.symm⟩
theorem u5{bd:List Str}{W w:Nat}(hw:Ways w){a b:Cell}(ha:On bd.length W a):∀{j:Nat},Rb (a8 bd W w) a j b→On bd.length W b
 |0,h=>by rw[show b=a from h];exact ha
 |j+1, .inl h=>u5 hw ha h
 |j+1, .inr ⟨y,_,hy⟩=>((eC hw).mp hy).1
theorem oM{bd:List Str}{W w:Nat}{a c b:Cell}(h:c∈a8 bd W w a):∀{j:Nat},Rb (a8 bd W w) c j b→Rb (a8 bd W w) a (j+1) b
 |0,q=> .inr ⟨a,rfl,by rw[show b=c from q];exact h⟩
 |j+1, .inl q=> .inl (oM h q)
 |j+1, .inr ⟨y,q,hy⟩=> .inr ⟨y,oM h q,hy⟩
theorem sM{bd:List Str}{W w:Nat}(hw:Ways w){a b:Cell}(ha:On bd.length W a):∀{j:Nat},Rb (a8 bd W w) a j b→Rb (a8 bd W w) b j a
 |0,h=>show a=b from(show b=a from h).symm
 |j+1, .inl h=> .inl (sM hw ha h)
 |j+1, .inr ⟨y,q,hy⟩=>oM (wg hw (u5 hw ha q) hy) (sM hw ha q)
theorem oN{bd:List Str}{W w:Nat}{a b c:Cell}{i:Nat}(h:Rb (a8 bd W w) a i b):∀{j:Nat},Rb (a8 bd W w) b j c→Rb (a8 bd W w) a (i+j) c
 |0,q=>by rw[show c=b from q];exact h
 |j+1, .inl q=> .inl (oN h q)
 |j+1, .inr ⟨y,q,hy⟩=> .inr ⟨y,oN h q,hy⟩
section
variable{bd:List Str}{W w:Nat}{a b c:Cell}
theorem Cn.on(hw:Ways w)(ha:On bd.length W a)(h:Cn bd W w a b):On bd.length W b:=let ⟨_,q⟩:=h;u5 hw ha q
theorem Cn.symm(hw:Ways w)(ha:On bd.length W a)(h:Cn bd W w a b):Cn bd W w b a:=let ⟨j,q⟩:=h;⟨j,sM hw ha q⟩
theorem Cn.trans(h:Cn bd W w a b)(h2:Cn bd W w b c):Cn bd W w a c:=let ⟨i,q⟩:=h;let ⟨j,r⟩:=h2;⟨i+j,oN q r⟩
end
structure IsPatch (bd:List Str) (W w:Nat) (a:Cell) (P:List Cell):Prop where
 rise:RiseC P
 mem:∀x,x∈P↔Cn bd W w a x
theorem IsPatch.one{bd:List Str}{W w:Nat}{a:Cell}{P Q:List Cell}(h:IsPatch bd W w a P)(h2:IsPatch bd W w a Q):P=Q:=la h.rise h2.rise fun x=>(h.mem x).trans (h2.mem x).symm
theorem rF{bd:List Str}{W:Nat}{ks:List Cell}(hn:ks.Nodup)(y6:∀x∈ks,On bd.length W x):ks.length≤bd.length*W:=by
 rw[←c7 bd.length W]
 exact jV hn fun x hx=>aS.mpr (y6 x hx)
theorem ID:((aH 8 8).map fun c=>dF (ic c)).Nodup:=by decide+kernel
theorem qG{α β:Type}{f:α→β}:∀{l:List α},(l.map f).Nodup→∀a∈l,∀b∈l,f a=f b→a=b
 |x::l,h,a,ha,b,hb,e=>by
  rw[List.map_cons,List.nodup_cons] at h
  by_cases h1:a=x
  ·by_cases h2:b=x
   ·rw[h1,h2]
   ·have hb:b∈l:=(List.mem_cons.mp hb).resolve_left h2
    exact absurd (List.mem_map.mpr ⟨b,hb,by rw[←h1];exact e.symm⟩) h.1
  ·have ha:a∈l:=(List.mem_cons.mp ha).resolve_left h1
   by_cases h2:b=x
   ·exact absurd (List.mem_map.mpr ⟨a,ha,by rw[←h2];exact e⟩) h.1
   ·exact qG h.2 a ha b ((List.mem_cons.mp hb).resolve_left h2) e
theorem xM{R W:Nat}(hR:R≤8)(hW:W≤8){l:List Cell}(hn:l.Nodup)(y6:∀x∈l,On R W x):(l.map fun c=>dF (ic c)).Nodup:=by
 have h8:∀x∈l,x∈aH 8 8:=fun x hx=>aS.mpr ⟨by have:=(y6 x hx).1;omega,by have:=(y6 x hx).2;omega⟩
 rw[List.Nodup,List.pairwise_map]
 refine List.Pairwise.imp_of_mem (fun {a b} ha hb h z=>h ?_) hn
 exact qG ID a (h8 a ha) b (h8 b hb) z
theorem nG:∀l:List Cell,eL (l.map cD)=some (l.map ic)
 |[]=>rfl
 |c::l=>by
  show (match E9 (cD c),eL (l.map cD) with | some k,some ks=>some (k::ks) | _,_=>none)=_
  rw[nG l]
  rfl
def H0(w:Nat):List Cell→Bool
 |a::b::r=>n9 w a b&&H0 w (b::r)
 |_=>true
structure IsWay (bd:List Str) (W w:Nat) (a b:Cell) (p:List Cell):Prop where
 on:∀x∈p,On bd.length W x
 hd:p.head? =some a
 lst:p.getLast? =some b
 let':∀x∈p,lt bd x=lt bd a
 PF:H0 w p=true
structure Trail (nb:Cell→List Cell) (b:Cell) (p:List Cell) (x:Cell):Prop where
 hd:p.head? =some x
 lst:p.getLast? =some b
 ch:∀l r u v,p=l++u::v::r→u∈nb v
abbrev wr(bd w a b k t:D):aY:=[fz bd,fz w,fz a,fz b,fz k,fz t]
theorem i9{α:Type}{f:D→M (Option D)}(enc:α→D)(g:α→D):∀(xs:List α),(∀x∈xs,f (enc x)=M.ret (some (g x)))→cj f (xs.map enc)=M.ret (xs.map g)
 |[],_=>rfl
 |x::xs,h=>by
  rw[List.map_cons,cy,h x (List.mem_cons_self ..),aj,i9 enc g xs fun y hy=>h y (List.mem_cons_of_mem _ hy)]
  rfl
theorem Nk{ρ:aY}{i:Nat}{ds:List D}(h:ρ[i]? =some (fz (.lst ds))):i_ (dV i) ρ=M.ret ds:=by
 unfold i_
 rw[eG h]
 rfl
def cw(ks:List Cell)(c:Cell):List Cell:=if c∈ks then ks else ks++[c]
def bx(l:List Cell):List Cell:=l.foldl cw []
def aK(ks:List Cell):List D:=ks.map fun _=> .bl true
theorem z_{ks:List Cell}{c x:Cell}:x∈cw ks c↔x∈ks∨x=c:=by
 unfold cw
 split
 ·rename_i h
  exact⟨.inl,fun q=>q.elim id fun e=>by rw[e];exact h⟩
 ·simp
theorem ny:∀(l ks:List Cell),(ks.Nodup→(l.foldl cw ks).Nodup)∧(∀x,x∈l.foldl cw ks↔x∈ks∨x∈l)∧(l.foldl cw ks).length≤ks.length+l.length
 |[],ks=>⟨id,fun x=>by simp,by simp⟩
 |c::l,ks=>by
  obtain⟨h1,h2,h3⟩:=ny l (cw ks c)
  refine⟨fun hn=>h1 ?_,fun x=>?_,?_⟩
  ·unfold cw
   split
   ·exact hn
   ·rename_i hc
    refine List.nodup_append.mpr ⟨hn,by simp,fun y hy z hz e=>?_⟩
    have hz:z=c:=by simpa using hz
    rw[e,hz] at hy
    exact hc hy
  ·rw[List.foldl_cons,h2 x,z_]
   simp[or_assoc]
  ·rw[List.foldl_cons,List.length_cons]
   have:(cw ks c).length≤ks.length+1:=by unfold cw;split<;>simp
   omega
theorem kR{l:List Cell}{x:Cell}:x∈bx l↔x∈l:=by
 unfold bx
 rw[(ny l []).2.1 x]
 simp
theorem Bn(l:List Cell):(bx l).Nodup:=(ny l []).1 List.nodup_nil
theorem zh(l:List Cell):(bx l).length≤l.length:=by have:=(ny l []).2.2;simpa[bx] using this
theorem q0{k:List Key}:∀{ks:List (List Key)}{l:List Cell},ks.length=l.length→mG ks (aK l) k (.bl true)=aK l
 |[],[],_=>rfl
 |k'::ks,c::l,h=>by
  show (if k'=k then D.bl true else D.bl true)::mG ks (aK l) k (.bl true)=_
  rw[q0 (by simpa using h)]
  split<;>rfl
 |[],_::_,h=>by simp at h
 |_::_,[],h=>by simp at h
theorem B6{ks:List Cell}{c:Cell}(hl:ks.length<lim):j8 (.dct (ks.map keyOf) (aK ks)) (cD c) (.bl true)=some (.dct ((cw ks c).map keyOf) (aK (cw ks c))):=by
 have hlen:(aK ks).length=ks.length:=by simp[aK]
 unfold cw
 by_cases h:c∈ks
 ·rw[if_pos h]
  show (match eM (cD c) with | some kk=>if (aK ks).length<lim then some (C.dct (cW (ks.map keyOf) (aK ks) kk) (b8 (ks.map keyOf) (aK ks) kk (.bl true))) else none | none=>none)=_
  rw[mP]
  show (if (aK ks).length<lim then some (C.dct (cW (ks.map keyOf) (aK ks) (keyOf c)) (b8 (ks.map keyOf) (aK ks) (keyOf c) (.bl true))) else none)=_
  rw[if_pos (by rw[hlen];exact hl)]
  obtain⟨d,e,_⟩:=lA (ds:=aK ks) hlen.symm h
  unfold cW b8
  rw[e]
  show some (C.dct (ks.map keyOf) (mG (ks.map keyOf) (aK ks) (keyOf c) (.bl true)))=_
  rw[q0 (by simp)]
 ·rw[if_neg h,u3 h (by rw[hlen];exact hl)]
  simp[aK]
abbrev wc(l:List Cell):D:= .dct ((bx l).map keyOf) (aK (bx l))
theorem zd{l:List Cell}(hl:l.length<4000):jC [cL l]=M.ret (wc l):=by
 have e:∀(xs ks:List Cell),ks.length+xs.length<4000→forL (putN 2) (du [2] (ma 1 (dV 2) (dC (.bl true)))) (xs.map cD) [fz (cL l),some (.ow (.dct (ks.map keyOf) (aK ks))),none]=M.ret (.nx [fz (cL l),some (.ow (.dct ((xs.foldl cw ks).map keyOf) (aK (xs.foldl cw ks)))),none]):=by
  intro xs
  induction xs with
  |nil=>intro ks _;rfl
  |cons x xs ih=>
   intro ks hk
   rw[List.length_cons] at hk
   have hle:(cw ks x).length≤ks.length+1:=by unfold cw;split<;>simp
   refine(fH (ρ1:=[fz (cL l),some (.ow (.dct (ks.map keyOf) (aK ks))),fz (cD x)]) (ρ2:=[fz (cL l),some (.ow (.dct ((cw ks x).map keyOf) (aK (cw ks x)))),none]) rfl ?_).trans (ih (cw ks x) (by omega))
   refine(bJ (ρ':=[fz (cL l),some (.ow (.dct ((cw ks x).map keyOf) (aK (cw ks x)))),fz (cD x)]) ?_).trans rfl
   show (match j8 (.dct (ks.map keyOf) (aK ks)) (cD x) (.bl true) with | some c'=>M.ret (Out.nx [fz (cL l),some (.ow c'),fz (cD x)]) | none=>M.stuck)=_
   rw[B6 (by rw[dD];omega)]
 refine aX (ar (ρ':=[fz (cL l),some (.ow (.dct [] [])),none]) rfl (ar (ρ':=[fz (cL l),some (.ow (.dct ((bx l).map keyOf) (aK (bx l)))),none]) (el (h7 (ds:=l.map cD) rfl (e l [] (by simpa using hl)))) rfl))
section
variable{bd:List Str}{W w:Nat}{a b c:Cell}{p q:List Cell}
end
theorem uB{x:Cell}:∀{l:List Cell},kQ (keyOf x) (l.map keyOf)=decide (x∈l)
 |[]=>rfl
 |y::l=>by
  show (decide (keyOf y=keyOf x)||kQ (keyOf x) (l.map keyOf))=_
  rw[uB]
  by_cases h:y=x
  ·subst h;simp
  ·have h2:¬keyOf y=keyOf x:=fun z=>h (fN z)
   rw[decide_eq_false h2,Bool.false_or,decide_eq_decide]
   constructor
   ·exact fun q=>List.mem_cons_of_mem _ q
   ·intro q
    rcases List.mem_cons.mp q with q | q
    ·exact absurd q.symm h
    ·exact q
theorem qr:∀{l:List Cell},jK (l.map cD)=some (l.map keyOf)
 |[]=>rfl
 |y::l=>by
  show (match eM (cD y),jK (l.map cD) with | some k,some ks=>some (k::ks) | _,_=>none)=_
  rw[qr]
  rfl
theorem xW{neg:Bool}{x:Cell}{l:List Cell}:yT neg (cD x) (cL l)=M.ret (.bl (if neg then !decide (x∈l) else decide (x∈l))):=by
 show (match eM (cD x),jK (l.map cD) with | some k,some ks=>M.ret (D.bl (if neg then !kQ k ks else kQ k ks)) | _,_=>M.stuck)=_
 rw[qr,mP]
 show M.ret (D.bl (if neg then !kQ (keyOf x) (l.map keyOf) else kQ (keyOf x) (l.map keyOf)))=_
 rw[uB]
theorem Ii(a b:Bool):mz (.bl a) (.bl b)=M.ret (.bl (a==b)):=rfl
theorem zo{δi:DA}{δt:DT}{ρ:aY}{xs:List Cell}(h:δi ρ=M.ret (xs.map cD))(h2:∀x∈xs,δt (fz (cD x)::ρ)=M.ret false):df (d2 mB (a9 0 δi δt (dV 0)) (dA fQ aN)) ρ=M.ret false:=by
 have cm:a9 0 δi δt (dV 0) ρ=M.ret (.lst []):=by
  refine bC h ?_ (Nat.zero_le _)
  have:=iz (f:=d8 0 δt (dV 0) ρ) cD (fun _=>false) xs fun x hx=>by rw[vR,h2 x hx];rfl
  rw[this,show xs.filter (fun _=>false)=[] from List.filter_eq_nil_iff.mpr fun _ _=>by simp]
  rfl
 exact fC ((aJ cm (y:= .lst []) rfl).trans rfl)
def o8(f:Cell→D)(x:Cell)(d:D):Cell→D:=fun y=>if y=x then d else f y
theorem yw{f:Cell→D}{x:Cell}:∀{ks:List Cell},x∈ks→d4 (ks.map keyOf) (ks.map f) (keyOf x)=some (f x)
 |y::ks,h=>by
  show (if keyOf y=keyOf x then some (f y) else d4 (ks.map keyOf) (ks.map f) (keyOf x))=_
  by_cases e:y=x
  ·subst e;rw[if_pos rfl]
  ·rw[if_neg (fun z=>e (fN z))]
   rcases List.mem_cons.mp h with q | q
   ·exact absurd q.symm e
   ·exact yw q
theorem yp{f:Cell→D}{x:Cell}{d:D}:∀{ks:List Cell},mG (ks.map keyOf) (ks.map f) (keyOf x) d=ks.map (o8 f x d)
 |[]=>rfl
 |y::ks=>by
  show (if keyOf y=keyOf x then d else f y)::mG (ks.map keyOf) (ks.map f) (keyOf x) d=_
  rw[yp,List.map_cons]
  congr 1
  unfold o8
  by_cases e:y=x
  ·subst e;rw[if_pos rfl,if_pos rfl]
  ·rw[if_neg (fun z=>e (fN z)),if_neg e]
def rank(W:Nat)(x:Cell):Nat:=x.1*W+x.2
theorem gL{R W:Nat}{a b:Cell}(ha:On R W a)(hb:On R W b):Ao a b=true↔rank W a<rank W b:=by
 unfold Ao rank
 have h1:=ha.2
 have h2:=hb.2
 by_cases h:a.1=b.1
 ·rw[if_pos h,decide_eq_true_eq,h];omega
 ·rw[if_neg h,decide_eq_true_eq]
  constructor
  ·intro q
   have:(a.1+1)*W≤b.1*W:=Nat.mul_le_mul_right _ q
   rw[Nat.add_mul,Nat.one_mul] at this
   omega
  ·intro q
   refine Classical.byContradiction fun z=>?_
   have:(b.1+1)*W≤a.1*W:=Nat.mul_le_mul_right _ (by omega)
   rw[Nat.add_mul,Nat.one_mul] at this
   omega
theorem B_{R W:Nat}{a b:Cell}(ha:On R W a)(hb:On R W b)(h:rank W a=rank W b):a=b:=by
 have n1:¬Ao a b=true:=fun z=>by have:=(gL ha hb).mp z;omega
 have n2:¬Ao b a=true:=fun z=>by have:=(gL hb ha).mp z;omega
 unfold Ao at n1 n2
 obtain⟨a1,a2⟩:=a
 obtain⟨b1,b2⟩:=b
 simp only at n1 n2
 by_cases h1:a1=b1
 ·rw[if_pos h1,decide_eq_true_eq] at n1
  rw[if_pos h1.symm,decide_eq_true_eq] at n2
  rw[Prod.mk.injEq];exact⟨h1,by omega⟩
 ·rw[if_neg h1,decide_eq_true_eq] at n1
  rw[if_neg (Ne.symm h1),decide_eq_true_eq] at n2
  omega
section
variable{bd:List Str}{W w:Nat}
structure Lab (bd:List Str) (W w:Nat) (L:Cell→Cell):Prop where
 on:∀x,On bd.length W x→On bd.length W (L x)
 cn:∀x,On bd.length W x→Cn bd W w x (L x)
 le:∀x,On bd.length W x→rank W (L x)≤rank W x
def mu(R W:Nat)(L:Cell→Cell):Nat:=((aH R W).map fun x=>rank W (L x)).sum
end
theorem LR{δ:DE}{ρ:aY}{l:List Cell}(h:δ ρ=M.ret (cL l)):i_ δ ρ=M.ret (l.map cD):=by
 show (δ ρ>>=lstM)=_
 rw[h]
 rfl
theorem eV(R W:Nat):RiseC (aH R W):=by
 unfold RiseC aH eO
 rw[List.pairwise_flatMap]
 constructor
 ·intro r _
  rw[List.pairwise_map]
  exact List.pairwise_lt_range.imp fun h=>by show (if _ then _ else _)=true;rw[if_pos rfl,decide_eq_true_eq];exact h
 ·refine List.pairwise_lt_range.imp fun {a b} h x hx y hy=>?_
  obtain⟨i,_,rfl⟩:=List.mem_map.mp hx
  obtain⟨j,_,rfl⟩:=List.mem_map.mp hy
  show (if a=b then _ else decide (a<b))=true
  rw[if_neg (by omega),decide_eq_true_eq]
  exact h
section
variable{bd:List Str}{W w:Nat}
def Least(bd:List Str)(W w:Nat)(x m:Cell):Prop:=Cn bd W w x m∧∀z,Cn bd W w x z→rank W m≤rank W z
end
theorem Hc{ks:List Cell}{f:Cell→D}{x:Cell}{d:D}:cW (ks.map keyOf) (ks.map f) (keyOf x)=(cw ks x).map keyOf∧b8 (ks.map keyOf) (ks.map f) (keyOf x) d=(cw ks x).map (o8 f x d):=by
 unfold cw cW b8
 by_cases h:x∈ks
 ·rw[yw h,if_pos h]
  exact⟨rfl,yp⟩
 ·rw[iI h,if_neg h]
  have e1:ks.map f=ks.map (o8 f x d):=List.map_congr_left fun y hy=>by
   unfold o8;rw[if_neg (fun z:y=x=>h (z▸hy))]
  have e2:(ks++[x]).map (o8 f x d)=ks.map (o8 f x d)++[d]:=by
   rw[List.map_append]
   congr 1
   show [o8 f x d x]=[d]
   unfold o8;rw[if_pos rfl]
  exact⟨by rw[List.map_append];rfl,by rw[e2,←e1];rfl⟩
theorem nY:∀(l ks:List Cell),bM (ks.map keyOf) (aK ks) (l.map keyOf) (aK l)=((l.foldl cw ks).map keyOf,aK (l.foldl cw ks))
 |[],ks=>rfl
 |x::l,ks=>by
  show bM (cW (ks.map keyOf) (aK ks) (keyOf x)) (b8 (ks.map keyOf) (aK ks) (keyOf x) (.bl true)) (l.map keyOf) (aK l)=_
  have h:=Hc (ks:=ks) (f:=fun _=>D.bl true) (x:=x) (d:= .bl true)
  have e:o8 (fun _=>D.bl true) x (.bl true)=fun _=>D.bl true:=by
   funext y;unfold o8;split<;>rfl
  rw[e] at h
  rw[show aK ks=ks.map (fun _=>D.bl true) from rfl,h.1,h.2]
  exact nY l (cw ks x)
theorem AH{l ks:List Cell}(h:ks.Nodup):(l.foldl cw ks).Nodup:=(ny l ks).1 h
section
open Classical
variable{bd:List Str}{W w:Nat}
noncomputable def bo(bd:List Str)(W w:Nat)(m:Cell):List Cell:=(aH bd.length W).filter fun x=>decide (Cn bd W w m x)
noncomputable def d9(bd:List Str)(W w:Nat)(l:List Cell):List Cell:=l.filter fun x=>decide (Least bd W w x x)
theorem kW(hw:Ways w){m:Cell}(hm:On bd.length W m):IsPatch bd W w m (bo bd W w m):=by
 refine⟨(eV _ _).filter _,fun x=>?_⟩
 unfold bo
 rw[List.mem_filter,aS,decide_eq_true_eq]
 exact⟨fun h=>h.2,fun h=>⟨h.on hw hm,h⟩⟩
theorem Least.on(hw:Ways w){x m:Cell}(hx:On bd.length W x)(h:Least bd W w x m):On bd.length W m:=h.1.on hw hx
theorem Least.move(hw:Ways w){x y m:Cell}(hx:On bd.length W x)(h:Least bd W w x m)(hy:Cn bd W w x y):Least bd W w y m:=
 ⟨(hy.symm hw hx).trans h.1,fun z hz=>h.2 z (hy.trans hz)⟩
theorem Least.self(hw:Ways w){x m:Cell}(hx:On bd.length W x)(h:Least bd W w x m):Least bd W w m m:=h.move hw hx h.1
variable(L:Cell→Cell)
theorem zf(hw:Ways w):∃L:Cell→Cell,∀x,On bd.length W x→Least bd W w x (L x):=by
 have h:∀x,∃m,On bd.length W x→Least bd W w x m:=fun x=>by
  by_cases hx:On bd.length W x
  ·have hP:=kW hw hx
   cases hp:bo bd W w x with
   |nil=>have:=(hP.mem x).mpr Cn.refl;rw[hp] at this;cases this
   |cons m r=>
    rw[hp] at hP
    have hm:=(hP.mem m).mp (List.mem_cons_self ..)
    refine⟨m,fun _=>⟨hm,fun z hz=>?_⟩⟩
    rcases List.mem_cons.mp ((hP.mem z).mpr hz) with rfl | O9
    ·exact Nat.le_refl _
    ·exact Nat.le_of_lt ((gL (hm.on hw hx) (hz.on hw hx)).mp ((List.pairwise_cons.mp hP.rise).1 z O9))
  ·exact⟨x,fun z=>absurd z hx⟩
 exact⟨fun x=>Classical.choose (h x),fun x=>Classical.choose_spec (h x)⟩
noncomputable def oB(bd:List Str)(W w:Nat):D:= .lst ((d9 bd W w (aH bd.length W)).map fun m=>cL (bo bd W w m))
end
section
open Classical
variable{bd:List Str}{W w:Nat}
def Mv:DS:=(du [4,5] (fk (CJ (df (d2 (jc true) (dV 4) (dV 3)))) (aG (cx 5 (dA rh (aC (ak 3 bW (aC (dV 0) (aC (dV 4) (aC (dV 1) aN)))) aN))) (aG (mI 2 (dV 5)) (zN 3 (ak 1 jC (aC (dV 5) aN))))) b_))
noncomputable def yB(bd:List Str)(W w:Nat)(s:List Cell):List D:=(d9 bd W w s).map fun m=>cL (bo bd W w m)
noncomputable def CT(bd:List Str)(W w:Nat)(s ks:List Cell)(x4 x5:Option Sl):aY:=[fz (brd bd),fz (.int (w:Int)),some (.ow (.lst (yB bd W w s))),some (.ow (.dct (ks.map keyOf) (aK ks))),x4,x5]
structure Seen (bd:List Str) (W w:Nat) (s ks:List Cell):Prop where
 nd:ks.Nodup
 on:∀y∈ks,On bd.length W y
 mem:∀y,y∈ks↔∃m∈d9 bd W w s,Cn bd W w m y
theorem CN{i:Nat}{δ:DE}{ρ:aY}{ks l:List Cell}(h0:ρ[i]? =some (some (.ow (.dct (ks.map keyOf) (aK ks)))))(hd:δ ρ=M.ret (wc l))(hz:ks.length+l.length≤4096)(hh:ks=[]→((bx l).map fun c=>dF (ic c)).Nodup):
 zN i δ ρ=M.ret (.nx (ρ.set i (some (.ow (.dct (((bx l).foldl cw ks).map keyOf) (aK ((bx l).foldl cw ks))))))):=by
 unfold zN zB
 rw[h0]
 show (δ ρ>>=fun d=>match CM (ks.map keyOf) (aK ks) d with | some c'=>M.ret (Out.nx (ρ.set i (some (.ow c')))) | none=>M.stuck)=_
 rw[hd,aj]
 have:CM (ks.map keyOf) (aK ks) (wc l)=some (.dct (((bx l).foldl cw ks).map keyOf) (aK ((bx l).foldl cw ks))):=by
  show (match eK ((bx l).map keyOf) with | some ns=>if (aK ks).length+(aK (bx l)).length≤lim∧((ks.map keyOf).isEmpty=true→(ns.map dF).Nodup) then some (C.dct (bM (ks.map keyOf) (aK ks) ((bx l).map keyOf) (aK (bx l))).1 (bM (ks.map keyOf) (aK ks) ((bx l).map keyOf) (aK (bx l))).2) else none | none=>none)=_
  rw[kO]
  show (if (aK ks).length+(aK (bx l)).length≤lim∧((ks.map keyOf).isEmpty=true→(((bx l).map ic).map dF).Nodup) then some (C.dct (bM (ks.map keyOf) (aK ks) ((bx l).map keyOf) (aK (bx l))).1 (bM (ks.map keyOf) (aK ks) ((bx l).map keyOf) (aK (bx l))).2) else none)=_
  have c1:(aK ks).length+(aK (bx l)).length≤lim:=by
   have:=zh l
   unfold aK
   rw[List.length_map,List.length_map,dD];omega
  have c2:(ks.map keyOf).isEmpty=true→(((bx l).map ic).map dF).Nodup:=fun z=>by
   rw[List.map_map]
   exact hh (by cases ks with | nil=>rfl | cons _ _=>cases z)
  rw[if_pos ⟨c1,c2⟩,nY]
 rw[this]
theorem vk(hg:Brd bd W)(hs:bd.length*W<64)(hw:Ways w){x:Cell}(hx:On bd.length W x){ρ:aY}(h0:dV 0 ρ=M.ret (brd bd))(h1:dV 1 ρ=M.ret (.int (w:Int)))(h4:dV 4 ρ=M.ret (cD x)):
 dA rh (aC (ak 3 bW (aC (dV 0) (aC (dV 4) (aC (dV 1) aN)))) aN) ρ=M.ret (cL (bo bd W w x)):=by
 obtain⟨k,ks,ps,q1,q2,q3⟩:=o3 hg hw hx
 have e1:ak 3 bW (aC (dV 0) (aC (dV 4) (aC (dV 1) aN))) ρ=M.ret (xx ks ps):=(ah (ds:=[brd bd,cD x, .int (w:Int)]) (aE h0 (aE h4 (aE h1 rfl))) rfl).trans q3
 refine(cQ (xs:=[xx ks ps]) (aE e1 rfl)).trans ((CA q1.nd (Nat.lt_of_le_of_lt (rF q1.nd q2) hs)).trans ?_)
 have:i5 ks=bo bd W w x:=IsPatch.one ⟨jr q1.nd,fun x=>kT.trans (q1.last x)⟩ (kW hw hx)
 rw[this]
theorem gj(s:List Cell)(x:Cell):d9 bd W w (s++[x])=if Least bd W w x x then d9 bd W w s++[x] else d9 bd W w s:=by
 unfold d9
 rw[List.filter_append]
 by_cases h:Least bd W w x x
 ·rw[if_pos h,List.filter_cons_of_pos (by rw[decide_eq_true_eq];exact h),List.filter_nil]
 ·rw[if_neg h,List.filter_cons_of_neg (by rw[decide_eq_true_eq];exact h),List.filter_nil,List.append_nil]
theorem C7(hg:Brd bd W)(hs:bd.length*W<64)(hw:Ways w){L:Cell→Cell}(hL:∀x,On bd.length W x→Least bd W w x (L x)){s r ks:List Cell}{x:Cell}(e:s++x::r=aH bd.length W)(h:Seen bd W w s ks):
 ∃ks',Seen bd W w (s++[x]) ks'∧Mv (CT bd W w s ks (fz (cD x)) none)=M.ret (.nx (CT bd W w (s++[x]) ks' none none)):=by
 have hx:On bd.length W x:=aS.mp (by rw[←e];simp)
 have A3:=eV bd.length W
 rw[←e] at A3
 have E7:∀y∈s,On bd.length W y:=fun y hy=>aS.mp (by rw[←e];simp[hy])
 have LA:∀y∈r,On bd.length W y:=fun y hy=>aS.mp (by rw[←e];simp[hy])
 have Du:∀y∈s,rank W y<rank W x:=fun y hy=>(gL (E7 y hy) hx).mp ((List.pairwise_append.mp A3).2.2 y hy x (List.mem_cons_self ..))
 have FP:∀y∈r,rank W x<rank W y:=fun y hy=>(gL hx (LA y hy)).mp ((List.pairwise_cons.mp (List.pairwise_append.mp A3).2.1).1 y hy)
 have P2:ks.length≤64:=by have:=rF (bd:=bd) (W:=W) h.nd h.on;omega
 have vE:s.length<64:=by
  have:=congrArg List.length e
  rw[c7,List.length_append,List.length_cons] at this
  omega
 have ht:CJ (df (d2 (jc true) (dV 4) (dV 3))) (CT bd W w s ks (fz (cD x)) none)=M.ret (!decide (x∈ks)):=
  Fl (fC ((aJ (x:=cD x) (y:= .dct (ks.map keyOf) (aK ks)) rfl rfl).trans (xU (neg:=true) (by simp[aK]))))
 by_cases hl:Least bd W w x x
 ·have LI:x∉ks:=fun z=>by
   obtain⟨m,hm,hc⟩:=(h.mem x).mp z
   unfold d9 at hm
   rw[List.mem_filter,decide_eq_true_eq] at hm
   have h1:=Du m hm.1
   have h2:=hl.2 m (hc.symm hw (E7 m hm.1))
   omega
  rw[decide_eq_false LI] at ht
  have hP:=kW hw hx (bd:=bd) (W:=W)
  have FN:∀y∈bo bd W w x,On bd.length W y:=fun y hy=>((hP.mem y).mp hy).on hw hx
  have vZ:(bo bd W w x).length≤64:=by have:=rF (bd:=bd) (W:=W) hP.rise.nodup FN;omega
  have Kc:(yB bd W w s).length<lim:=by
   unfold yB
   rw[List.length_map,dD]
   have:=List.length_filter_le (fun x=>decide (Least bd W w x x)) s
   unfold d9
   omega
  refine⟨(bx (bo bd W w x)).foldl cw ks,⟨AH h.nd,fun y hy=>?_,fun y=>?_⟩,?_⟩
  ·rcases((ny (bx (bo bd W w x)) ks).2.1 y).mp hy with q | q
   ·exact h.on y q
   ·exact FN y (kR.mp q)
  ·rw[(ny (bx (bo bd W w x)) ks).2.1 y,kR,h.mem y,gj,if_pos hl,hP.mem y]
   constructor
   ·rintro(⟨m,hm,hc⟩ | hc)
    ·exact⟨m,List.mem_append.mpr (.inl hm),hc⟩
    ·exact⟨x,by simp,hc⟩
   ·rintro⟨m,hm,hc⟩
    rcases List.mem_append.mp hm with hm | hm
    ·exact .inl ⟨m,hm,hc⟩
    ·rw[List.mem_singleton.mp hm] at hc;exact .inr hc
  ·have ef:yB bd W w (s++[x])=yB bd W w s++[cL (bo bd W w x)]:=by
    unfold yB
    rw[gj,if_pos hl,List.map_append]
    rfl
   refine(bJ (ρ':=[fz (brd bd),fz (.int (w:Int)),some (.ow (.lst (yB bd W w s++[cL (bo bd W w x)]))),some (.ow (.dct (((bx (bo bd W w x)).foldl cw ks).map keyOf) (aK ((bx (bo bd W w x)).foldl cw ks)))),fz (cD x),fz (cL (bo bd W w x))]) (eP ht (ar (ρ':=CT bd W w s ks (fz (cD x)) (fz (cL (bo bd W w x)))) ((aZ (vk hg hs hw hx rfl rfl rfl)).trans rfl) (ar (ρ':=[fz (brd bd),fz (.int (w:Int)),some (.ow (.lst (yB bd W w s++[cL (bo bd W w x)]))),some (.ow (.dct (ks.map keyOf) (aK ks))),fz (cD x),fz (cL (bo bd W w x))]) ?_ ?_)))).trans ?_
   ·show (if (yB bd W w s).length<lim then M.ret (Out.nx [fz (brd bd),fz (.int (w:Int)),some (.ow (.lst (yB bd W w s++[cL (bo bd W w x)]))),some (.ow (.dct (ks.map keyOf) (aK ks))),fz (cD x),fz (cL (bo bd W w x))]) else M.stuck)=_
    rw[if_pos Kc]
   ·exact(CN (ks:=ks) (l:=bo bd W w x) rfl ((ah (ds:=[cL (bo bd W w x)]) rfl rfl).trans (zd (by omega))) (by omega) (fun _=>xM hg.r8 hg.w8 (Bn _) fun y hy=>FN y (kR.mp hy))).trans rfl
   ·unfold CT
    rw[ef]
    rfl
 ·have hm:=hL x hx
  have fL:L x≠x:=fun z=>hl (by rw[z] at hm;exact hm)
  have dP:rank W (L x)<rank W x:=by
   have h1:=hm.2 x Cn.refl
   have h2:rank W (L x)≠rank W x:=fun z=>fL (B_ (hm.on hw hx) hx z)
   omega
  have OG:L x∈s:=by
   have:L x∈s++x::r:=by rw[e];exact aS.mpr (hm.on hw hx)
   rcases List.mem_append.mp this with q | q
   ·exact q
   ·rcases List.mem_cons.mp q with q | q
    ·exact absurd q fL
    ·have:=FP _ q;omega
  have LI:x∈ks:=(h.mem x).mpr ⟨L x,by unfold d9;rw[List.mem_filter,decide_eq_true_eq];exact⟨OG,hm.self hw hx⟩,hm.1.symm hw hx⟩
  rw[decide_eq_true LI] at ht
  refine⟨ks,⟨h.nd,h.on,fun y=>by rw[gj,if_neg hl];exact h.mem y⟩,?_⟩
  have ef:yB bd W w (s++[x])=yB bd W w s:=by
   unfold yB
   rw[gj,if_neg hl]
  refine(bJ (cu ht rfl)).trans ?_
  unfold CT
  rw[ef]
  rfl
theorem xq(hg:Brd bd W)(hs:bd.length*W<64)(hw:Ways w){L:Cell→Cell}(hL:∀x,On bd.length W x→Least bd W w x (L x)):∀(r s ks:List Cell),s++r=aH bd.length W→Seen bd W w s ks→
 ∃ks',forL (putN 4) Mv (r.map cD) (CT bd W w s ks none none)=M.ret (.nx (CT bd W w (aH bd.length W) ks' none none))
 |[],s,ks,e,h=>by
  rw[List.append_nil] at e
  exact⟨ks,by rw[e];rfl⟩
 |x::r,s,ks,e,h=>by
  obtain⟨Pd,h1,e1⟩:=C7 hg hs hw hL e h
  obtain⟨Pe,e2⟩:=xq hg hs hw hL r (s++[x]) Pd (by rw[List.append_assoc];exact e) h1
  exact⟨Pe,(fH rfl e1).trans e2⟩
theorem my(hg:Brd bd W)(hs:bd.length*W<64)(hw:Ways w):dO [brd bd, .int (w:Int)]=M.ret (oB bd W w):=by
 obtain⟨L,hL⟩:=zf (bd:=bd) (W:=W) hw
 obtain⟨ks,e⟩:=xq hg hs hw hL (aH bd.length W) [] [] rfl ⟨List.nodup_nil,(fun y hy=>(by cases hy)),(fun y=>⟨fun z=>(by cases z),fun⟨m,hm,_⟩=>(by cases hm)⟩)⟩
 refine aX (ar (ρ':=[fz (brd bd),fz (.int (w:Int)),some (.ow (.lst [])),none,none,none]) rfl (ar (ρ':=CT bd W w [] [] none none) rfl (ar (ρ':=CT bd W w (aH bd.length W) ks none none) (el (h7 (ds:=(aH bd.length W).map cD) (LR ((ah (ds:=[brd bd]) rfl rfl).trans (iQ hg))) e)) rfl)))
end
structure NumOk (R W:Nat) (Ps:List (List Cell)) (ks:List Cell) (f:Cell→Nat):Prop where
 nd:ks.Nodup
 on:∀y∈ks,On R W y
 num:∀y∈ks,∃P,Ps[f y]? =some P∧y∈P
section
open Classical
variable{bd:List Str}{W w:Nat}
noncomputable def bS(bd:List Str)(W w:Nat):List (List Cell):=(d9 bd W w (aH bd.length W)).map (bo bd W w)
theorem wJ:oB bd W w= .lst ((bS bd W w).map cL):=by
 unfold oB bS
 rw[List.map_map]
 rfl
theorem Bj{m:Cell}(h:m∈d9 bd W w (aH bd.length W)):On bd.length W m:=by
 unfold d9 at h
 exact aS.mp (List.mem_filter.mp h).1
theorem uY(hg:Brd bd W)(hs:bd.length*W<64)(hw:Ways w):cb [brd bd, .int (w:Int)]=M.ret (.lst ((bS bd W w).map cL)):=by
 rw[←wJ]
 exact aX (ar (b9 ((ah (ds:=[brd bd]) rfl rfl).trans hg.nb)) (ar (b9 ((ah (ds:=[.int (w:Int)]) rfl rfl).trans hw.nw)) (aD ((ah (ds:=[brd bd, .int (w:Int)]) rfl rfl).trans (my hg hs hw)))))
end
end K1
namespace K1
open PySem L2 L3 HT
def qI(l:List Nat):Str:=⟨l.toArray⟩
theorem jg(x:Str):qI x.cps.toList=x:=kl (by simp[qI])
theorem b5(l:List Nat):(qI l).cps.toList=l:=by simp[qI]
theorem jM(l:List Nat):(qI l).length=l.length:=by simp[qI,Str.length]
theorem mX(x y:Str):(x++y).cps.toList=x.cps.toList++y.cps.toList:=by
 show (x.cps++y.cps).toList=_
 simp
def mapR(g:Nat→Nat)(r:Str):Str:=qI (r.cps.toList.map g)
theorem Ct(x:Str):signs x=x.cps.toList.map sg:=rfl
theorem yu:∀l:List Nat,jt (l.map sg)=some (l.map fun c=>(⟨#[c]⟩:Str))
 |[]=>rfl
 |c::r=>by
  show (jt (r.map sg)).map _=_
  rw[yu r]
  rfl
theorem xD:∀l:List Nat,cS (l.map fun c=>(⟨#[c]⟩:Str))=qI l
 |[]=>rfl
 |c::r=>by
  refine kl ?_
  show ((⟨#[c]⟩:Str)++cS (r.map fun c=>(⟨#[c]⟩:Str))).cps.toList=_
  rw[mX,xD r,b5,b5]
  rfl
theorem CB:∀l:List Nat,((l.map fun c=>(⟨#[c]⟩:Str)).map (·.length)).sum=l.length
 |[]=>rfl
 |c::r=>by
  show 1+((r.map fun c=>(⟨#[c]⟩:Str)).map (·.length)).sum=_
  rw[CB r,List.length_cons]
  omega
theorem DK{l:List Nat}(h:l.length≤4096):joinM (.str "") [.lst (l.map sg)]=M.ret (.str (qI l)):=by
 show (match jt (l.map sg) with | some (xs:List Str)=>if ("":Str).length=0∧(xs.map fun x:Str=>x.length).sum≤lim then M.ret (D.str (cS xs)) else M.stuck | none=>M.stuck)=_
 rw[yu]
 show (if ("":Str).length=0∧((l.map fun c=>(⟨#[c]⟩:Str)).map fun x:Str=>x.length).sum≤lim then M.ret (D.str (cS (l.map fun c=>(⟨#[c]⟩:Str)))) else M.stuck)=_
 rw[if_pos ⟨rfl,by have:=CB l;rw[dD];exact Nat.le_trans (Nat.le_of_eq this) h⟩,xD]
theorem A_{i:Nat}{δ:DE}{ρ:aY}{r:Str}{g:Nat→Nat}(h0:ρ[i]? =some (fz (.str r)))(hl:r.length≤4096)(hd:∀c∈r.cps.toList,δ (fz (sg c)::ρ)=M.ret (sg (g c))):
 dM vF joinM (dC (.str "")) (aC (a9 0 (fun ρ=>(dV i) ρ>>=oW) bw δ) aN) ρ=M.ret (.str (mapR g r)):=by
 have AZ:r.cps.toList.length≤4096:=hl
 have cm:a9 0 (fun ρ=>(dV i) ρ>>=oW) bw δ ρ=M.ret (.lst ((r.cps.toList.map g).map sg)):=by
  refine bC (ds:=r.cps.toList.map sg) ?_ ?_ (by rw[List.length_map,List.length_map,dD];exact AZ)
  ·show (dV i ρ>>=oW)=_
   rw[eG h0]
   rfl
  ·have:∀(l:List Nat),(∀c∈l,δ (fz (sg c)::ρ)=M.ret (sg (g c)))→cj (d8 0 bw δ ρ) (l.map sg)=M.ret ((l.map g).map sg):=by
    intro l
    induction l with
    |nil=>exact fun _=>rfl
    |cons c l ih=>
     intro h
     rw[List.map_cons,cy,gM,h c (List.mem_cons_self ..),ih fun x hx=>h x (List.mem_cons_of_mem _ hx)]
     rfl
   exact this _ hd
 show (if vF (.str "") then((aC _ aN) ρ>>=fun ds=>joinM (.str "") ds) else M.stuck)=_
 rw[if_pos (show vF (.str "")=true from rfl),aE cm (xs:=[]) rfl,aj]
 exact DK (by rw[List.length_map];exact AZ)
theorem xV(c:Nat):uv ⟨#[c]⟩=decide (c∈[97,98,99,100,101,102]):=StrLaws.found_one "abcdef" c
theorem Fo{i:Nat}(h:i<6):gE (.str "abcdef") (.int (i:Int))=M.ret (sg (97+i)):=by
 match i,h with
 |0,_=>rfl
 |1,_=>rfl
 |2,_=>rfl
 |3,_=>rfl
 |4,_=>rfl
 |5,_=>rfl
abbrev p0:List Nat:=[97,98,99,100,101,102]
theorem yq{W:Nat}{r:Str}(h:Row W r){c:Nat}(hc:c∈r.cps.toList):c∈[97,98,99,100,101,102]:=by
 have:=h.let' c hc
 rw[xV] at this
 exact of_decide_eq_true this
def eg(bd:List Str):List Nat:=(bd.map (·.cps.toList)).flatten
theorem DJ{bd:List Str}{W:Nat}(hg:Brd bd W){i:Nat}{ρ:aY}(h0:ρ[i]? =some (fz (brd bd))):dM vF joinM (dC (.str "")) (aC (dV i) aN) ρ=M.ret (.str (qI (eg bd))):=by
 have h8:=hg.r8
 have w8:=hg.w8
 show (if vF (.str "") then((aC (dV i) aN) ρ>>=fun ds=>joinM (.str "") ds) else M.stuck)=_
 rw[if_pos (show vF (.str "")=true from rfl),aE (eG h0) (xs:=[]) rfl,aj]
 show (match jt (bd.map D.str) with | some (xs:List Str)=>if ("":Str).length=0∧(xs.map fun x:Str=>x.length).sum≤lim then M.ret (D.str (cS xs)) else M.stuck | none=>M.stuck)=_
 have e1:∀xs:List Str,jt (xs.map D.str)=some xs:=by
  intro xs
  induction xs with
  |nil=>rfl
  |cons x r ih=>show (jt (r.map D.str)).map _=_;rw[ih];rfl
 rw[e1]
 have e2:∀xs:List Str,(cS xs).cps.toList=(xs.map (·.cps.toList)).flatten:=by
  intro xs
  induction xs with
  |nil=>rfl
  |cons x r ih=>show (x++cS r).cps.toList=_;rw[mX,ih];rfl
 have e3:∀xs:List Str,(∀x∈xs,x.length≤8)→(xs.map fun x:Str=>x.length).sum≤xs.length*8:=by
  intro xs
  induction xs with
  |nil=>exact fun _=>Nat.zero_le _
  |cons x r ih=>
   intro h
   have:=ih fun y hy=>h y (List.mem_cons_of_mem _ hy)
   have:=h x (List.mem_cons_self ..)
   rw[List.map_cons,List.sum_cons,List.length_cons,Nat.add_mul]
   omega
 have e4:=e3 bd fun x hx=>by rw[(hg.rows x hx).len];exact w8
 show (if ("":Str).length=0∧(bd.map fun x:Str=>x.length).sum≤lim then M.ret (D.str (cS bd)) else M.stuck)=_
 rw[if_pos ⟨rfl,by rw[dD];omega⟩]
 congr 2
 refine kl ?_
 rw[e2,b5]
 rfl
theorem jO{bd:List Str}{c:Nat}:c∈eg bd↔∃r∈bd,c∈r.cps.toList:=by
 unfold eg
 rw[List.mem_flatten]
 constructor
 ·rintro⟨l,hl,h⟩
  obtain⟨r,hr,rfl⟩:=List.mem_map.mp hl
  exact⟨r,hr,h⟩
 ·rintro⟨r,hr,h⟩
  exact⟨_,List.mem_map.mpr ⟨r,hr,rfl⟩,h⟩
theorem dg{bd:List Str}{W:Nat}(hg:Brd bd W){c:Nat}(h:c∈eg bd):c∈p0:=by
 obtain⟨r,hr,h⟩:=jO.mp h
 exact yq (hg.rows r hr) h
theorem mQ{bd:List Str}{W:Nat}(hg:Brd bd W){c:Cell}(hc:On bd.length W c):lt bd c∈eg bd:=by
 have h1:c.1<bd.length:=hc.1
 have hr:(bd.getD c.1 ⟨#[]⟩).cps.toList.length=W:=(hg.rows _ (getD_mem h1)).len
 have h2:c.2<(bd.getD c.1 ⟨#[]⟩).cps.toList.length:=by rw[hr];exact hc.2
 refine jO.mpr ⟨_,getD_mem h1,?_⟩
 show ch (bd.getD c.1 ⟨#[]⟩) c.2∈_
 generalize bd.getD c.1 ⟨#[]⟩=r at h2
 unfold ch
 rw[List.getD_eq_getElem?_getD,List.getElem?_eq_getElem h2]
 exact List.getElem_mem h2
theorem f6{bd:List Str}{i j:Nat}(hi:i<bd.length)(hj:j<bd[i].cps.toList.length):at2 bd i j=bd[i].cps.toList[j]:=by
 unfold at2 ch
 rw[List.getD_eq_getElem?_getD (l:=bd),List.getElem?_eq_getElem hi,Option.getD_some,List.getD_eq_getElem?_getD,List.getElem?_eq_getElem hj,Option.getD_some]
theorem AR{α:Type}{l:List α}{i:Nat}{x:α}(h:l[i]? =some x)(hi:i<l.length):l[i]=x:=by
 rw[List.getElem?_eq_getElem hi] at h
 exact Option.some.inj h
theorem xC{a b:List Str}{W:Nat}(ha:∀r∈a,r.length=W)(hb:∀r∈b,r.length=W)(hl:a.length=b.length)(h:∀i j,i<a.length→j<W→at2 a i j=at2 b i j):a=b:=by
 refine List.ext_getElem hl fun i h1 h2=>?_
 have w1:a[i].cps.toList.length=W:=ha _ (List.getElem_mem h1)
 have w2:b[i].cps.toList.length=W:=hb _ (List.getElem_mem h2)
 refine kl (List.ext_getElem (by rw[w1,w2]) fun j q1 q2=>?_)
 rw[←f6 h1 q1,←f6 h2 q2]
 exact h i j h1 (by omega)
def dY(bd:List Str):List Str:=bd.map sP
theorem jP{bd:List Str}{W:Nat}(hg:Brd bd W):dG [brd bd]=M.ret (brd (dY bd)):=by
 refine aX (ar (b9 ((ah (ds:=[brd bd]) rfl rfl).trans hg.nb)) (aD ?_))
 refine(cQ (xs:=[.lst ((dY bd).map D.str)]) (aE (bC (Nl (i:=0) rfl) (ys:=(dY bd).map D.str) ?_ (by unfold dY;rw[List.length_map,List.length_map,dD];have:=hg.r8;omega)) rfl)).trans rfl
 unfold dY
 rw[List.map_map]
 have:∀l:List Str,cj (d8 0 bw (Fx (dV 0) (d1 GC (dC (.int 1)))) [fz (brd bd)]) (l.map D.str)=M.ret (l.map (D.str∘sP)):=by
  intro l
  induction l with
  |nil=>rfl
  |cons r l ih=>rw[List.map_cons,cy,gM,ih];rfl
 exact this bd
theorem eD{bd:List Str}{W:Nat}(hG:Good bd W):Good (dY bd) W:=by
 refine⟨by unfold dY;rw[List.length_map];exact hG.r1,by unfold dY;rw[List.length_map];exact hG.r5,hG.w1,hG.w5,fun r hr=>?_⟩
 obtain⟨q,hq,rfl⟩:=List.mem_map.mp hr
 refine⟨by rw[oP];exact(hG.rows q hq).len,fun c hc=>(hG.rows q hq).let' c ?_⟩
 unfold sP at hc
 simpa using hc
theorem mR{bd:List Str}{W i j:Nat}(hr:∀r∈bd,r.length=W)(hi:i<bd.length)(hj:j<W):at2 (dY bd) i j=at2 bd i (W - 1 - j):=by
 have hw:bd[i].cps.toList.length=W:=hr _ (List.getElem_mem hi)
 have h1:i<(dY bd).length:=by unfold dY;rw[List.length_map];exact hi
 have e0:(dY bd)[i]? =some (sP bd[i]):=by
  unfold dY
  rw[List.getElem?_map,List.getElem?_eq_getElem hi]
  rfl
 have e1:(dY bd)[i].cps.toList=bd[i].cps.toList.reverse:=by
  rw[AR e0 h1]
  unfold sP
  simp
 have h2:j<(dY bd)[i].cps.toList.length:=by rw[e1,List.length_reverse,hw];exact hj
 rw[f6 h1 h2,f6 hi (by rw[hw];omega)]
 have:(dY bd)[i].cps.toList[j]? =bd[i].cps.toList[W - 1 - j]? :=by rw[e1,List.getElem?_reverse (by rw[hw];exact hj),hw]
 rw[List.getElem?_eq_getElem h2,List.getElem?_eq_getElem (by rw[hw];omega)] at this
 exact Option.some.inj this
theorem AE{α β:Type}(f:α→β):∀l:List α,(l.flatMap fun r=>[f r])=l.map f
 |[]=>rfl
 |r::l=>by rw[List.flatMap_cons,AE f l];rfl
theorem Dt{d:D}{g:Nat→Nat}{i:Nat}{ρ:aY}{c:Nat}(hd:nI d=true)(hg:getM d (sg c) (sg c)=M.ret (sg (g c)))(h0:ρ[0]? =some (fz (sg c)))(h1:ρ[i]? =some (fz d)):p_ (dV i) (dV 0) (dV 0) ρ=M.ret (sg (g c)):=by
 show (dV i ρ>>=fun d=>if nI d then dV 0 ρ>>=fun k=>dV 0 ρ>>=fun v=>getM d k v else M.stuck)=_
 rw[eG h1,aj,if_pos hd,eG h0,aj,aj,hg]
theorem iu{bd:List Str}{W:Nat}(hg:Brd bd W){d:D}{g:Nat→Nat}(hd:nI d=true)(rW:∀r∈bd,∀c∈r.cps.toList,getM d (sg c) (sg c)=M.ret (sg (g c))):cI [brd bd,d]=M.ret (brd (bd.map (mapR g))):=by
 have h8:=hg.r8
 have w8:=hg.w8
 have lp:=gP (put:=putN 3) (body:=du [3] (mI 2 (dM vF joinM (dC (.str "")) (aC (a9 0 (fun ρ=>(dV 3) ρ>>=oW) bw (p_ (dV 2) (dV 0) (dV 0))) aN)))) D.str (fun acc=>[fz (brd bd),fz d,some (.ow (.lst acc)),none]) (fun r=>[.str (mapR g r)]) (B:=4000) bd [] (by
  rw[List.nil_append,AE,List.length_map]
  omega) fun r hr acc ha=>by
  refine⟨[fz (brd bd),fz d,some (.ow (.lst acc)),fz (.str r)],rfl,(bJ (ρ':=[fz (brd bd),fz d,some (.ow (.lst (acc++[.str (mapR g r)]))),fz (.str r)]) ?_).trans rfl⟩
  have e:=A_ (i:=3) (δ:=p_ (dV 2) (dV 0) (dV 0)) (ρ:=[fz (brd bd),fz d,some (.ow (.lst acc)),fz (.str r)]) (r:=r) (g:=g) rfl (by rw[(hg.rows r hr).len];omega) fun c hc=>Dt hd (rW r hr c hc) rfl rfl
  show (dM vF joinM (dC (.str "")) (aC (a9 0 (fun ρ=>(dV 3) ρ>>=oW) bw (p_ (dV 2) (dV 0) (dV 0))) aN) _>>=fun d=>if acc.length<lim then M.ret (Out.nx _) else M.stuck)=_
  rw[e,aj,if_pos (by rw[dD];rw[List.length_append] at ha;simp at ha;omega)]
  rfl
 refine aX (ar (ρ':=[fz (brd bd),fz d,some (.ow (.lst [])),none]) rfl (ar (el (h7 (Nl (i:=0) rfl) lp)) ?_))
 refine(aD (d:=brd (bd.map (mapR g))) ?_)
 refine(cQ (xs:=[.lst (bd.flatMap fun r=>[D.str (mapR g r)])]) rfl).trans ?_
 show M.ret (D.tup (bd.flatMap fun r=>[D.str (mapR g r)]))=M.ret (D.tup ((bd.map (mapR g)).map D.str))
 rw[AE,List.map_map]
 rfl
def eU(ms:List Nat)(c:Nat):List Nat:=if c∈ms then ms else ms++[c]
theorem jv{ms:List Nat}{c x:Nat}:x∈eU ms c↔x∈ms∨x=c:=by
 unfold eU
 split
 ·rename_i h
  exact⟨.inl,fun q=>q.elim id fun e=>e▸h⟩
 ·simp
def LetOk(ms:List Nat):Prop:=ms.Nodup∧∀c∈ms,c∈[97,98,99,100,101,102]
theorem LetOk.len{ms:List Nat}(h:LetOk ms):ms.length≤6:=jV h.1 h.2
theorem LetOk.add{ms:List Nat}(h:LetOk ms){c:Nat}(hc:c∈[97,98,99,100,101,102]):LetOk (eU ms c):=by
 unfold eU
 split
 ·exact h
 ·rename_i hn
  refine⟨List.nodup_append.mpr ⟨h.1,by simp,fun a ha b hb=>?_⟩,fun x hx=>?_⟩
  ·have:b=c:=by simpa using hb
   subst this
   exact fun z=>hn (z▸ha)
  ·rcases List.mem_append.mp hx with q | q
   ·exact h.2 x q
   ·have:x=c:=by simpa using q
    rw[this]
    exact hc
def kS(c:Nat):Key:= .inr ⟨#[c]⟩
theorem nL{a b:Nat}(h:kS a=kS b):a=b:=by
 have h:(⟨#[a]⟩:Str)=⟨#[b]⟩:=Sum.inr.inj h
 have h:=congrArg (fun s:Str=>s.cps.toList) h
 simpa using h
def eT(n:Nat):List D:=(List.range n).map fun i=>sg (97+i)
def zm(ms:List Nat):C:= .dci (ms.map kS) (eT ms.length)
def Fc(ms:List Nat):D:= .dci (ms.map kS) (eT ms.length)
def gN(ms:List Nat)(c:Nat):Nat:=if c∈ms then 97+ms.idxOf c else c
theorem tB{c:Nat}:∀(ms:List Nat) (f:Nat→D),d4 (ms.map kS) ((List.range ms.length).map f) (kS c)=if c∈ms then some (f (ms.idxOf c)) else none
 |[],f=>by simp[d4]
 |m::ms,f=>by
  rw[List.length_cons,List.range_succ_eq_map,List.map_cons,List.map_cons,List.map_map]
  show (if kS m=kS c then some (f 0) else d4 (ms.map kS) ((List.range ms.length).map (f∘Nat.succ)) (kS c))=_
  by_cases h:m=c
  ·subst h
   rw[if_pos rfl,if_pos (List.mem_cons_self ..),List.idxOf_cons_self]
  ·rw[if_neg (fun z=>h (nL z)),tB ms (f∘Nat.succ)]
   by_cases hc:c∈ms
   ·rw[if_pos hc,if_pos (List.mem_cons_of_mem _ hc),List.idxOf_cons,beq_false_of_ne h]
    rfl
   ·rw[if_neg hc,if_neg (fun z=>by rcases List.mem_cons.mp z with q | q;exact h q.symm;exact hc q)]
theorem FK(ms:List Nat)(c:Nat):getM (Fc ms) (sg c) (sg c)=M.ret (sg (gN ms c)):=by
 show (match (some (d4 (ms.map kS) (eT ms.length) (kS c)):Option (Option D)) with | some (some x)=>M.ret x | some none=>M.ret (sg c) | none=>M.stuck)=_
 unfold eT gN
 rw[tB]
 by_cases h:c∈ms
 ·rw[if_pos h,if_pos h]
 ·rw[if_neg h,if_neg h]
theorem FQ(ms:List Nat)(c:Nat)(neg:Bool):jc neg (sg c) (Fc ms)=M.ret (.bl (if neg then !decide (c∈ms) else decide (c∈ms))):=by
 show (match (some (d4 (ms.map kS) (eT ms.length) (kS c)):Option (Option D)) with | some o=>M.ret (D.bl (if neg then !o.isSome else o.isSome)) | none=>M.stuck)=_
 unfold eT
 rw[tB]
 by_cases h:c∈ms
 ·rw[if_pos h,decide_eq_true h]
  rfl
 ·rw[if_neg h,decide_eq_false h]
  rfl
theorem Hd{ms:List Nat}{c:Nat}(hc:c∉ms)(hl:ms.length<6):j8 (zm ms) (sg c) (sg (97+ms.length))=some (zm (ms++[c])):=by
 show (if (eT ms.length).length<lim then some (C.dci (cW (ms.map kS) (eT ms.length) (kS c)) (b8 (ms.map kS) (eT ms.length) (kS c) (sg (97+ms.length)))) else none)=_
 have hv:d4 (ms.map kS) (eT ms.length) (kS c)=none:=by
  unfold eT
  rw[tB,if_neg hc]
 rw[if_pos (by unfold eT;rw[List.length_map,List.length_range,dD];omega)]
 unfold cW b8
 rw[hv]
 unfold zm
 rw[List.length_append,List.map_append]
 show some (C.dci (ms.map kS++[kS c]) (eT ms.length++[sg (97+ms.length)]))=some (C.dci (ms.map kS++[kS c]) (eT (ms.length+1)))
 congr 2
 unfold eT
 rw[List.range_succ,List.map_append]
 rfl
def fe(bd:List Str):List Nat:=(eg bd).foldl eU []
theorem bD{bd:List Str}{W:Nat}(hg:Brd bd W):aI [brd bd]=M.ret (brd (bd.map (mapR (gN (fe bd))))):=by
 have h8:=hg.r8
 have w8:=hg.w8
 have Lk:∀c∈eg bd,c∈[97,98,99,100,101,102]:=fun c hc=>by
  obtain⟨l,hl,h⟩:=List.mem_flatten.mp hc
  obtain⟨r,hr,rfl⟩:=List.mem_map.mp hl
  exact yq (hg.rows r hr) h
 obtain⟨_,lp⟩:=iC (put:=putN 2) (body:=du [2] (fk (CJ (df (d2 (jc true) (dV 2) (dV 1)))) (ma 1 (dV 2) (J4 (d2 gE (dC (.str "abcdef")) (dA lK (aC (dV 1) aN))))) b_)) sg (fun ms=>[fz (brd bd),some (.ow (zm ms)),none]) eU LetOk (eg bd) [] ⟨List.nodup_nil,fun c h=>by cases h⟩ fun ms hm c hc=>by
  have E2:=Lk c hc
  refine⟨hm.add E2,[fz (brd bd),some (.ow (zm ms)),fz (sg c)],rfl,?_⟩
  have Kr:CJ (df (d2 (jc true) (dV 2) (dV 1))) [fz (brd bd),some (.ow (zm ms)),fz (sg c)]=M.ret (!decide (c∈ms)):=by
   show noex (df (d2 (jc true) (dV 2) (dV 1)) [fz (brd bd),fz (Fc ms),fz (sg c)])=_
   rw[fC ((aJ (x:=sg c) (y:=Fc ms) rfl rfl).trans (FQ ms c true))]
   rfl
  by_cases h:c∈ms
  ·rw[decide_eq_true h] at Kr
   refine(bJ (cu Kr rfl)).trans ?_
   unfold eU
   rw[if_pos h]
   rfl
  ·rw[decide_eq_false h] at Kr
   have MZ:ms.length<6:=by
    have:=(hm.add E2).len
    unfold eU at this
    rw[if_neg h,List.length_append] at this
    simp at this
    omega
   have ev:J4 (d2 gE (dC (.str "abcdef")) (dA lK (aC (dV 1) aN))) [fz (brd bd),some (.ow (zm ms)),fz (sg c)]=M.ret (sg (97+ms.length)):=by
    show (noex (d2 gE (dC (.str "abcdef")) (dA lK (aC (dV 1) aN)) [fz (brd bd),fz (Fc ms),fz (sg c)])>>=qc)=_
    have:d2 gE (dC (.str "abcdef")) (dA lK (aC (dV 1) aN)) [fz (brd bd),fz (Fc ms),fz (sg c)]=M.ret (sg (97+ms.length)):=by
     refine(aJ (x:= .str "abcdef") (y:= .int (ms.length:Int)) rfl ?_).trans (Fo MZ)
     refine(cQ (xs:=[Fc ms]) rfl).trans ?_
     show M.ret (D.int ((ms.map kS).length:Int))=_
     rw[List.length_map]
    rw[this]
    rfl
   refine(bJ (ρ':=[fz (brd bd),some (.ow (zm (ms++[c]))),fz (sg c)]) (eP Kr ?_)).trans ?_
   ·show (J4 (d2 gE (dC (.str "abcdef")) (dA lK (aC (dV 1) aN))) _>>=fun v=>dV 2 _>>=fun k=>match j8 (zm ms) k v with | some c'=>M.ret (Out.nx _) | none=>M.stuck)=_
    rw[ev,aj]
    show (match j8 (zm ms) (sg c) (sg (97+ms.length)) with | some c'=>M.ret (Out.nx ([fz (brd bd),some (.ow (zm ms)),fz (sg c)].set 1 (some (.ow c')))) | none=>M.stuck)=_
    rw[Hd h MZ]
    rfl
   ·unfold eU
    rw[if_neg h]
    rfl
 refine aX (ar (b9 ((ah (ds:=[brd bd]) rfl rfl).trans hg.nb)) (ar (ρ':=[fz (brd bd),some (.ow (zm [])),none]) rfl (ar (ρ':=[fz (brd bd),some (.ow (zm (fe bd))),none]) (el (h7 (ds:=(eg bd).map sg) ?_ lp)) ?_)))
 ·show (dM vF joinM (dC (.str "")) (aC (dV 0) aN) _>>=oW)=_
  rw[DJ hg (i:=0) rfl]
  show M.ret (signs (qI (eg bd)))=_
  rw[Ct,b5]
 ·refine aD ((ah (ds:=[brd bd,Fc (fe bd)]) rfl rfl).trans (iu hg rfl fun r hr c hc=>FK _ c))
theorem qg:∀(l ms:List Nat),∃t,l.foldl eU ms=ms++t
 |[],ms=>⟨[],by simp⟩
 |c::l,ms=>by
  obtain⟨t,e⟩:=qg l (eU ms c)
  rw[List.foldl_cons,e]
  unfold eU
  split
  ·exact⟨t,rfl⟩
  ·exact⟨c::t,by simp⟩
theorem qf:∀(l ms:List Nat) (c:Nat),c∈l∨c∈ms→c∈l.foldl eU ms
 |[],ms,c,h=>h.elim (fun z=>by cases z) id
 |a::l,ms,c,h=>by
  rw[List.foldl_cons]
  refine qf l _ c ?_
  rcases h with h | h
  ·rcases List.mem_cons.mp h with rfl | h
   ·exact .inr (jv.mpr (.inr rfl))
   ·exact .inl h
  ·exact .inr (jv.mpr (.inl h))
theorem ub:∀(l ms:List Nat),LetOk ms→(∀c∈l,c∈[97,98,99,100,101,102])→LetOk (l.foldl eU ms)
 |[],ms,h,_=>h
 |a::l,ms,h,hl=>ub l _ (h.add (hl a (List.mem_cons_self ..))) fun c hc=>hl c (List.mem_cons_of_mem _ hc)
def pB(bd:List Str)(lo hi:Option Int):List Str:=(bd.drop (sIx bd.length 0 lo)).take (sIx bd.length bd.length hi - sIx bd.length 0 lo)
theorem Fw(bd:List Str)(lo hi:Option Int):cutD (bd.map D.str) lo hi=(pB bd lo hi).map D.str:=by
 unfold cutD pB
 rw[List.length_map,←List.map_drop,←List.map_take]
def fR(bd:List Str)(a b c d:Int):List Str:=(pB bd (some a) (some b)).map fun r=>Txt.slice r (some c) (some d)
theorem Ap(bd:List Str)(lo hi:Option Int):(pB bd lo hi).length≤bd.length:=by
 unfold pB
 rw[List.length_take,List.length_drop]
 omega
theorem BG{bd:List Str}{W:Nat}(hg:Brd bd W){a b c d:Int}{δt δl:DO}{δc δd:DO}{i:Nat}{ρ:aY}(h0:ρ[i]? =some (fz (brd bd)))(ha:δt ρ=M.ret (some a))(hb:δl ρ=M.ret (some b))(hc:∀x,δc (x::ρ)=M.ret (some c))(hd:∀x,δd (x::ρ)=M.ret (some d)):
 dA rl (aC (a9 0 (fc (Aq (dV i) δt δl)) bw (Aq (dV 0) δc δd)) aN) ρ=M.ret (brd (fR bd a b c d)):=by
 have h8:=hg.r8
 have cm:a9 0 (fc (Aq (dV i) δt δl)) bw (Aq (dV 0) δc δd) ρ=M.ret (.lst ((fR bd a b c d).map D.str)):=by
  refine bC (ds:=(pB bd (some a) (some b)).map D.str) ?_ ?_ (by unfold fR;rw[List.length_map,List.length_map,dD];have:=Ap bd (some a) (some b);omega)
  ·have e:Aq (dV i) δt δl ρ=M.ret (.tup ((pB bd (some a) (some b)).map D.str)):=by
    unfold Aq
    rw[eG h0,aj,ha,aj,hb,aj]
    show M.ret (D.tup (cutD (bd.map D.str) (some a) (some b)))=_
    rw[Fw]
   unfold fc
   rw[e]
   rfl
  ·unfold fR
   rw[List.map_map]
   have:∀l:List Str,cj (d8 0 bw (Aq (dV 0) δc δd) ρ) (l.map D.str)=M.ret (l.map (D.str∘fun r=>Txt.slice r (some c) (some d))):=by
    intro l
    induction l with
    |nil=>rfl
    |cons r l ih=>
     have e:Aq (dV 0) δc δd (fz (.str r)::ρ)=M.ret (.str (Txt.slice r (some c) (some d))):=by
      show (M.ret (D.str r)>>=fun d=>δc (fz (.str r)::ρ)>>=fun l=>δd (fz (.str r)::ρ)>>=fun h=>Nw d l h)=_
      rw[aj,hc,aj,hd]
      rfl
     rw[List.map_cons,cy,gM,e,ih]
     rfl
   exact this _
 exact(cQ (xs:=[.lst ((fR bd a b c d).map D.str)]) (aE cm rfl)).trans rfl
theorem fS{bd:List Str}{W:Nat}(hg:Brd bd W)(a b c d:Int):bR [brd bd, .int a, .int b, .int c, .int d]=M.ret (brd (fR bd a (c+1) b (d+1))):=
 aX (aD (BG hg (i:=0) rfl rfl rfl (fun _=>rfl) (fun _=>rfl)))
def bA(bd pt:List Str)(V:Nat)(x:Cell):Bool:=decide (fR bd (x.1:Int) ((x.1:Int)+(pt.length:Int)) (x.2:Int) ((x.2:Int)+(V:Int))=pt)
theorem Bg{bd pt:List Str}{W V:Nat}(hg:Brd bd W)(hp:Brd pt V)(x:Cell):eB [brd bd,brd pt,cD x]=M.ret (.bl (bA bd pt V x)):=by
 refine aX ?_
 refine ar (ρ':=[fz (brd bd),fz (brd pt),fz (cD x),fz (.int ((x.1:Int)+(pt.length:Int) - 1)),none]) ((aZ (d:= .int ((x.1:Int)+(pt.length:Int) - 1)) ((aJ (x:= .int ((x.1:Int)+(pt.length:Int))) (y:= .int 1) ((aJ (x:= .int (x.1:Int)) rfl (Be (i:=1) rfl)).trans rfl) rfl).trans rfl)).trans rfl) ?_
 refine ar (ρ':=[fz (brd bd),fz (brd pt),fz (cD x),fz (.int ((x.1:Int)+(pt.length:Int) - 1)),fz (.int ((x.2:Int)+(V:Int) - 1))]) ((aZ (d:= .int ((x.2:Int)+(V:Int) - 1)) ((aJ (x:= .int ((x.2:Int)+(V:Int))) (y:= .int 1) ((aJ (x:= .int (x.2:Int)) rfl (hp.len0 (i:=1) rfl)).trans rfl) rfl).trans rfl)).trans rfl) ?_
 refine aD ((aJ (x:=brd (fR bd (x.1:Int) ((x.1:Int)+(pt.length:Int)) (x.2:Int) ((x.2:Int)+(V:Int)))) (y:=brd pt) ((ah (ds:=[brd bd, .int (x.1:Int), .int (x.2:Int), .int ((x.1:Int)+(pt.length:Int) - 1), .int ((x.2:Int)+(V:Int) - 1)]) rfl rfl).trans ((fS hg ..).trans ?_)) rfl).trans (vU gf (by decide) _ _))
 rw[Int.sub_add_cancel,Int.sub_add_cancel]
theorem fI{bd pt:List Str}{W V:Nat}(hg:Brd bd W)(hp:Brd pt V):aR [brd bd,brd pt]=M.ret (cL ((aH bd.length W).filter (bA bd pt V))):=by
 refine aX (ar (b9 ((ah (ds:=[brd bd]) rfl rfl).trans hg.nb)) (ar (b9 ((ah (ds:=[brd pt]) rfl rfl).trans hp.nb)) (aD ?_)))
 have hl:((aH bd.length W).filter (bA bd pt V)).length≤64:=Nat.le_trans (List.length_filter_le ..) (by rw[c7];exact Nat.mul_le_mul hg.r8 hg.w8)
 refine bC (ds:=(aH bd.length W).map cD) ?_ (iz cD (bA bd pt V) _ fun x hx=>?_) (by rw[List.length_map,dD];omega)
 ·show (ak 1 cz (aC (dV 0) aN) _>>=lstM)=_
  exact congrArg (· >>=lstM) ((ah (ds:=[brd bd]) rfl rfl).trans (iQ hg))
 ·rw[vR]
  have e:bH (ak 3 eB (aC (dV 1) (aC (dV 2) (aC (dV 0) aN)))) [fz (cD x),fz (brd bd),fz (brd pt)]=M.ret (bA bd pt V x):=ja ((ah (ds:=[brd bd,brd pt,cD x]) rfl rfl).trans (Bg hg hp x))
  show (bH (ak 3 eB (aC (dV 1) (aC (dV 2) (aC (dV 0) aN)))) [fz (cD x),fz (brd bd),fz (brd pt)]>>=fun b=>if b then(dV 0 [fz (cD x),fz (brd bd),fz (brd pt)]>>=fun y=>M.ret (some y)) else M.ret none)=_
  rw[e]
  cases bA bd pt V x<;>rfl
def pj(p q c:Nat):Nat:=if c=p then(if p=q then p else q) else if c=q then p else c
theorem Df(p q:Nat):∃d,nI d=true∧(∀c,getM d (sg c) (sg c)=M.ret (sg (pj p q c)))∧∀{a b c e:DE}{ρ:aY},a ρ=M.ret (sg p)→b ρ=M.ret (sg q)→c ρ=M.ret (sg q)→e ρ=M.ret (sg p)→rN a b c e ρ=M.ret d:=by
 refine⟨(if kS p=kS q then C.dci [kS p] [sg p] else C.dci [kS p,kS q] [sg q,sg p]).d,?_,fun c=>?_,fun h1 h2 h3 h4=>?_⟩
 ·split<;>rfl
 ·by_cases Ly:p=q
  ·subst Ly
   rw[if_pos rfl]
   show (match (some (if kS p=kS c then some (sg p) else none):Option (Option D)) with | some (some x)=>M.ret x | some none=>M.ret (sg c) | none=>M.stuck)=_
   unfold pj
   by_cases h:c=p
   ·rw[if_pos (by rw[h]),if_pos h,if_pos rfl]
   ·rw[if_neg (fun z=>h (nL z).symm),if_neg h,if_neg h]
  ·rw[if_neg (fun z=>Ly (nL z))]
   show (match (some (if kS p=kS c then some (sg q) else if kS q=kS c then some (sg p) else none):Option (Option D)) with | some (some x)=>M.ret x | some none=>M.ret (sg c) | none=>M.stuck)=_
   unfold pj
   by_cases h:c=p
   ·rw[if_pos (by rw[h]),if_pos h,if_neg Ly]
   ·rw[if_neg (fun z=>h (nL z).symm),if_neg h]
    by_cases h':c=q
    ·rw[if_pos (by rw[h']),if_pos h']
    ·rw[if_neg (fun z=>h' (nL z).symm),if_neg h']
 ·unfold rN
  rw[h1,h2,h3,h4]
  rfl
theorem tU(ns:List Int)(hl:ns.length≤63){bd:List Str}{W:Nat}(hg:Brd bd W)(k:Nat):∃c,On bd.length W c∧cU [.scr ns, .int (k:Int),brd bd]=M.ret (cD c):=by
 obtain⟨v,hv,e⟩:=c9 ns hl k bd.length hg.r1
 obtain⟨u,hu,e2⟩:=c9 ns hl (k+1) W hg.w1
 refine⟨(v,u),⟨hv,hu⟩,aX (aD ((cQ (xs:=[.int (v:Int), .int (u:Int)]) (aE ?_ (aE ?_ rfl))).trans rfl))⟩
 ·exact(ah (ds:=[.scr ns, .int (k:Int), .int (bd.length:Int)]) (aE rfl (aE rfl (aE (Be (i:=2) rfl) rfl))) rfl).trans e
 ·exact(ah (ds:=[.scr ns, .int ((k+1:Nat):Int), .int (W:Int)]) (aE rfl (aE rfl (aE (hg.len0 (i:=2) rfl) rfl))) rfl).trans e2
section
variable{bd:List Str}{W:Nat}
theorem jw{b2:List Str}{V:Nat}(hg:Brd bd W)(hp:Brd b2 V):bh [brd bd,brd b2]=M.ret (.bl (decide (bd.map (mapR (gN (fe bd)))=b2.map (mapR (gN (fe b2)))))):=
 aX (aD ((aJ ((ah (ds:=[brd bd]) rfl rfl).trans (bD hg)) ((ah (ds:=[brd b2]) rfl rfl).trans (bD hp))).trans (vU gf (by decide) _ _)))
theorem Bq{p:Nat}(h:uv ⟨#[p]⟩=true):cV [sg p]=M.ret .non:=
 sR (cu (ni (b:=true) (ja ((ah (ds:=[sg p]) rfl rfl).trans ((iU (d:=sg p) trivial).trans (by show M.ret (D.bl (true&&uv ⟨#[p]⟩))=_;rw[h];rfl))))) rfl)
theorem iq(hg:Brd bd W){p q:Nat}(hp:uv ⟨#[p]⟩=true)(hq:uv ⟨#[q]⟩=true):cf [brd bd,sg p,sg q]=M.ret (brd (bd.map (mapR (pj p q)))):=by
 obtain⟨d,d1,d2,d3⟩:=Df p q
 exact aX (ar (b9 ((ah (ds:=[brd bd]) rfl rfl).trans hg.nb)) (ar (b9 ((ah (ds:=[sg p]) rfl rfl).trans (Bq hp))) (ar (b9 ((ah (ds:=[sg q]) rfl rfl).trans (Bq hq))) (aD ((ah (ds:=[brd bd,d]) (aE rfl (aE (d3 rfl rfl rfl rfl) rfl)) rfl).trans (iu hg d1 fun r hr c hc=>d2 c))))))
end
theorem gX(f:Nat→Nat)(r:Str):(mapR f r).cps.toList=r.cps.toList.map f:=b5 _
theorem qy(f g:Nat→Nat)(r:Str):mapR f (mapR g r)=mapR (f∘g) r:=by
 unfold mapR
 rw[b5,List.map_map]
theorem DR{f:Nat→Nat}{r:Str}(h:∀c∈r.cps.toList,f c=c):mapR f r=r:=by
 unfold mapR
 rw[List.map_congr_left (g:=id) h,List.map_id,jg]
theorem Ad(f:Nat→Nat)(bd:List Str):eg (bd.map (mapR f))=(eg bd).map f:=by
 unfold eg
 rw[List.map_map,List.map_flatten,List.map_map]
 congr 1
 first | done | exact List.map_congr_left fun r _=>gX f r
def ju(f:Nat→Nat)(l:List Nat):Prop:=∀a∈l,∀b∈l,f a=f b→a=b
theorem fold_map{f:Nat→Nat}{U:List Nat}(hf:ju f U):∀(l m:List Nat),(∀x∈l,x∈U)→(∀x∈m,x∈U)→(l.map f).foldl eU (m.map f)=(l.foldl eU m).map f
 |[],m,_,_=>rfl
 |c::l,m,hl,hm=>by
  have hc:=hl c (List.mem_cons_self ..)
  have e:eU (m.map f) (f c)=(eU m c).map f:=by
   unfold eU
   by_cases h:c∈m
   ·rw[if_pos h,if_pos (List.mem_map.mpr ⟨c,h,rfl⟩)]
   ·rw[if_neg h,if_neg (fun z=>by
     obtain⟨a,ha,e⟩:=List.mem_map.mp z
     exact h (hf a (hm a ha) c hc e▸ha)),List.map_append]
    rfl
  rw[List.map_cons,List.foldl_cons,List.foldl_cons,e]
  refine fold_map hf l (eU m c) (fun x hx=>hl x (List.mem_cons_of_mem _ hx)) fun x hx=>?_
  rcases jv.mp hx with h | h
  ·exact hm x h
  ·exact h▸hc
theorem uc:∀(l m:List Nat) (x:Nat),x∈l.foldl eU m→x∈l∨x∈m
 |[],m,x,h=> .inr h
 |c::l,m,x,h=>by
  rcases uc l (eU m c) x h with q | q
  ·exact .inl (List.mem_cons_of_mem _ q)
  ·rcases jv.mp q with r | r
   ·exact .inr r
   ·exact .inl (r▸List.mem_cons_self ..)
theorem fP{bd:List Str}{c:Nat}:c∈fe bd↔c∈eg bd:=
 ⟨fun h=>(uc _ _ _ h).elim id (fun z=>by cases z),fun h=>qf _ _ _ (.inl h)⟩
theorem Bi{f:Nat→Nat}{bd:List Str}(hf:ju f (eg bd)):fe (bd.map (mapR f))=(fe bd).map f:=by
 unfold fe
 rw[Ad]
 exact fold_map hf (eg bd) [] (fun x hx=>hx) (fun x hx=>by cases hx)
theorem DU{bd:List Str}{W:Nat}(hg:Brd bd W):LetOk (fe bd):=ub _ _ ⟨List.nodup_nil,fun c h=>by cases h⟩ fun c hc=>dg hg hc
theorem idx_map{f:Nat→Nat}{c:Nat}:∀{ms:List Nat},ju f ms→c∈ms→(ms.map f).idxOf (f c)=ms.idxOf c
 |[],_,h=>by cases h
 |m::ms,hf,h=>by
  rw[List.map_cons,List.idxOf_cons,List.idxOf_cons]
  by_cases e:m=c
  ·subst e
   rw[beq_self_eq_true,beq_self_eq_true]
   rfl
  ·have hc:c∈ms:=(List.mem_cons.mp h).resolve_left fun z=>e z.symm
   have ne:¬f m=f c:=fun z=>e (hf m (List.mem_cons_self ..) c h z)
   rw[beq_false_of_ne e,beq_false_of_ne ne,idx_map (fun a ha b hb=>hf a (List.mem_cons_of_mem _ ha) b (List.mem_cons_of_mem _ hb)) hc]
def b0(bd:List Str):List Str:=bd.map (mapR (gN (fe bd)))
theorem u7{f:Nat→Nat}{bd:List Str}(hf:ju f (eg bd)):b0 (bd.map (mapR f))=b0 bd:=by
 unfold b0
 rw[Bi hf,List.map_map]
 refine List.map_congr_left fun r hr=>?_
 show mapR _ (mapR f r)=_
 rw[qy]
 unfold mapR
 congr 1
 refine List.map_congr_left fun c hc=>?_
 have v3:c∈fe bd:=fP.mpr (jO.mpr ⟨r,hr,hc⟩)
 show gN _ (f c)=_
 unfold gN
 rw[if_pos v3,if_pos (List.mem_map.mpr ⟨c,v3,rfl⟩),idx_map (fun a ha b hb=>hf a (fP.mp ha) b (fP.mp hb)) v3]
theorem xJ{ms:List Nat}{c:Nat}(h:c∈ms):gN ms c=97+ms.idxOf c:=if_pos h
theorem FI{ms:List Nat}:ju (gN ms) ms:=fun a ha b hb e=>by
 rw[xJ ha,xJ hb] at e
 have e:ms.idxOf a=ms.idxOf b:=by omega
 have h1:=List.getElem_idxOf (List.idxOf_lt_length_iff.mpr ha)
 have h2:=List.getElem_idxOf (List.idxOf_lt_length_iff.mpr hb)
 rw[←h1,←h2]
 congr 1
theorem Ds{bd:List Str}:ju (gN (fe bd)) (eg bd):=fun a ha b hb e=>FI a (fP.mpr ha) b (fP.mpr hb) e
theorem v8{c:Nat}(h:c∈p0):uv ⟨#[c]⟩=true:=(xV c).trans (decide_eq_true h)
theorem gY{f:Nat→Nat}{bd:List Str}{W:Nat}(hG:Good bd W)(hf:∀c∈eg bd,f c∈p0):Good (bd.map (mapR f)) W:=by
 refine⟨by rw[List.length_map];exact hG.r1,by rw[List.length_map];exact hG.r5,hG.w1,hG.w5,fun r hr=>?_⟩
 obtain⟨q,hq,rfl⟩:=List.mem_map.mp hr
 refine⟨?_,fun c hc=>?_⟩
 ·show (qI (q.cps.toList.map f)).length=W
  rw[jM,List.length_map]
  exact(hG.rows q hq).len
 ·rw[gX] at hc
  obtain⟨a,ha,rfl⟩:=List.mem_map.mp hc
  exact v8 (hf a (jO.mpr ⟨q,hq,ha⟩))
theorem FH{bd:List Str}{W:Nat}(hg:Brd bd W){c:Nat}(h:c∈eg bd):gN (fe bd) c∈p0:=by
 have v3:=fP.mpr h
 rw[xJ v3]
 have h6:=(DU hg).len
 have:=List.idxOf_lt_length_iff.mpr v3
 have:(fe bd).idxOf c<6:=by omega
 generalize (fe bd).idxOf c=i at this
 simp only[List.mem_cons,List.not_mem_nil,or_false]
 omega
theorem Cb{bd:List Str}{W:Nat}(hG:Good bd W):Good (b0 bd) W:=gY hG fun c hc=>FH hG.brd hc
theorem sd{f:Nat→Nat}{bd:List Str}{W:Nat}(hg:Brd bd W){c:Cell}(hc:On bd.length W c):lt (bd.map (mapR f)) c=f (lt bd c):=by
 have h1:c.1<bd.length:=hc.1
 have hr:(bd.getD c.1 ⟨#[]⟩).cps.toList.length=W:=(hg.rows _ (getD_mem h1)).len
 have h2:c.2<(bd.getD c.1 ⟨#[]⟩).cps.toList.length:=by rw[hr];exact hc.2
 show ch ((bd.map (mapR f)).getD c.1 ⟨#[]⟩) c.2=f (ch (bd.getD c.1 ⟨#[]⟩) c.2)
 rw[List.getD_eq_getElem?_getD,List.getElem?_map,List.getElem?_eq_getElem h1]
 rw[List.getD_eq_getElem?_getD,List.getElem?_eq_getElem h1] at h2⊢
 simp only[Option.map_some,Option.getD_some] at h2⊢
 unfold ch
 rw[gX,List.getD_eq_getElem?_getD,List.getElem?_map,List.getElem?_eq_getElem h2,List.getD_eq_getElem?_getD,List.getElem?_eq_getElem h2]
 rfl
open PySem.Builtin PySem.Builtin.Str in
theorem oX{x:Str}{i j:Int}(h:(x.length:Int)≤j):Txt.slice x (some i) (some j)=Txt.slice x (some i) (some (x.length:Int)):=by
 show StrLaws.sliceText x _ _=StrLaws.sliceText x _ _
 have e:strSliceIndices (some i) (some j) 1 x.length=strSliceIndices (some i) (some (x.length:Int)) 1 x.length:=by
  have a:¬((x.length:Int)<0):=by omega
  have b:¬(j<0):=by omega
  have c:min j (x.length:Int)=(x.length:Int):=by omega
  simp[strSliceIndices,a,b,c]
 unfold StrLaws.sliceText
 rw[e]
theorem w6{x:Str}{i W:Nat}(hl:x.length=W)(hi:i≤W):Txt.slice x (some (i:Int)) (some ((i:Int)+(W:Int)))=qI (x.cps.toList.drop i):=by
 rw[oX (by omega)]
 have q:=eq_of_beq (PyProof.Rows.slice_closesL (x:=x) (i:=(i:Int)) (j:=(x.length:Int)) (by omega) (by omega) (by omega))
 rw[q]
 refine kl ?_
 have e:((x.length:Int) - (i:Int)).toNat=x.length - i:=by omega
 rw[e,b5]
 have hx:x.length=x.cps.toList.length:=rfl
 rw[hx,Int.toNat_natCast,List.take_of_length_le (by rw[List.length_drop];exact Nat.le_refl _)]
theorem we{bd pt:List Str}{W:Nat}(hg:Brd bd W)(hp:Brd pt W)(hl:pt.length=bd.length){x:Cell}(hx:On bd.length W x):bA bd pt W x=decide (x=(0,0)∧bd=pt):=by
 have h1:=hx.1
 have h2:=hx.2
 have w1:=hg.w1
 have e1:sIx bd.length 0 (some (x.1:Int))=x.1:=by rw[sIx_nat];omega
 have e2:sIx bd.length bd.length (some ((x.1:Int)+(pt.length:Int)))=bd.length:=by
  have:(x.1:Int)+(pt.length:Int)=((x.1+pt.length:Nat):Int):=by omega
  rw[this,sIx_nat]
  omega
 have hc:x.1=0→fR bd (x.1:Int) ((x.1:Int)+(pt.length:Int)) (x.2:Int) ((x.2:Int)+(W:Int))=bd.map fun r=>qI (r.cps.toList.drop x.2):=fun z1=>by
  unfold fR pB
  rw[e1,e2,z1,List.drop_zero,Nat.sub_zero,List.take_length]
  exact List.map_congr_left fun r hr=>w6 (hg.rows r hr).len (by omega)
 unfold bA
 refine decide_eq_decide.mpr ⟨fun e=>?_,?_⟩
 ·have ll:=congrArg List.length e
  unfold fR pB at ll
  rw[List.length_map,e1,e2,List.length_take,List.length_drop] at ll
  have z1:x.1=0:=by omega
  rw[hc z1] at e
  obtain⟨r,t,rfl⟩:∃r t,bd=r::t:=by
   cases bd with
   |nil=>exact absurd hg.r1 (by decide)
   |cons r t=>exact⟨r,t,rfl⟩
  have hm:qI (r.cps.toList.drop x.2)∈pt:=by rw[←e];exact List.mem_map.mpr ⟨r,List.mem_cons_self ..,rfl⟩
  have hw:=(hp.rows _ hm).len
  have hr:r.cps.toList.length=W:=(hg.rows r (List.mem_cons_self ..)).len
  rw[jM,List.length_drop,hr] at hw
  have z2:x.2=0:=by omega
  refine⟨Prod.ext z1 z2,?_⟩
  rw[←e,z2]
  conv=>lhs;rw[←List.map_id (r::t)]
  exact List.map_congr_left fun q _=>by rw[List.drop_zero,jg];rfl
 ·rintro⟨rfl,rfl⟩
  refine(hc rfl).trans ?_
  conv=>rhs;rw[←List.map_id bd]
  exact List.map_congr_left fun q _=>by rw[List.drop_zero,jg];rfl
theorem vP{R W:Nat}(hR:1≤R)(hW:1≤W):∃t,aH R W=(0,0)::t∧(0,0)∉t:=by
 obtain⟨r,rfl⟩:∃r,R=r+1:=⟨R - 1,by omega⟩
 obtain⟨w,rfl⟩:∃w,W=w+1:=⟨W - 1,by omega⟩
 unfold aH eO
 rw[List.range_succ_eq_map,List.range_succ_eq_map,List.flatMap_cons,List.map_cons]
 refine⟨_,rfl,fun h=>?_⟩
 rcases List.mem_append.mp h with h | h
 ·obtain⟨a,ha,e⟩:=List.mem_map.mp h
  obtain⟨b,_,rfl⟩:=List.mem_map.mp ha
  exact absurd (congrArg Prod.snd e) (by simp)
 ·obtain⟨a,ha,h⟩:=List.mem_flatMap.mp h
  obtain⟨b,_,rfl⟩:=List.mem_map.mp ha
  obtain⟨c,_,e⟩:=List.mem_map.mp h
  exact absurd (congrArg Prod.fst e) (by simp)
theorem ue{bd pt:List Str}{W:Nat}(hg:Brd bd W)(hp:Brd pt W)(hl:pt.length=bd.length):aR [brd bd,brd pt]=M.ret (cL (if bd=pt then [(0,0)] else [])):=by
 rw[fI hg hp]
 congr 2
 have e:(aH bd.length W).filter (bA bd pt W)=(aH bd.length W).filter fun x=>decide (x=(0,0)∧bd=pt):=List.filter_congr fun x hx=>we hg hp hl (aS.mp hx)
 rw[e]
 obtain⟨t,ht,hn⟩:=vP hg.r1 hg.w1
 rw[ht,List.filter_cons]
 have h0:t.filter (fun x=>decide (x=(0,0)∧bd=pt))=[]:=List.filter_eq_nil_iff.mpr fun x hx z=>hn ((of_decide_eq_true z).1▸hx)
 rw[h0]
 by_cases h:bd=pt
 ·rw[if_pos h,if_pos (decide_eq_true ⟨rfl,h⟩)]
 ·rw[if_neg h,if_neg (fun z=>h (of_decide_eq_true z).2)]
theorem CD{p q:Nat}:ju (pj p q) p0:=fun a _ b _ e=>by
 unfold pj at e
 split at e<;>split at e<;>(repeat' split at e)<;>omega
theorem Ht{p q c:Nat}(hp:p∈p0)(hq:q∈p0)(hc:c∈p0):pj p q c∈p0:=by
 unfold pj
 split
 ·split
  ·exact hp
  ·exact hq
 ·split
  ·exact hp
  ·exact hc
def b7(bd:List Str)(a m c n:Nat):List Str:=((bd.drop a).take m).map fun r=>qI ((r.cps.toList.drop c).take n)
theorem zQ{r:Str}{W c n:Nat}(hl:r.length=W)(hc:c≤W):Txt.slice r (some (c:Int)) (some ((c:Int)+(n:Int)))=qI ((r.cps.toList.drop c).take n):=by
 have hx:r.cps.toList.length=W:=hl
 by_cases h:c+n≤W
 ·have q:=eq_of_beq (PyProof.Rows.slice_closesL (x:=r) (i:=(c:Int)) (j:=(c:Int)+(n:Int)) (by omega) (by omega) (by rw[hl];omega))
  rw[q]
  have e1:((c:Int)+(n:Int) - (c:Int)).toNat=n:=by omega
  rw[e1,Int.toNat_natCast]
  rfl
 ·rw[oX (by rw[hl];omega)]
  have q:=eq_of_beq (PyProof.Rows.slice_closesL (x:=r) (i:=(c:Int)) (j:=(r.length:Int)) (by omega) (by rw[hl];omega) (by omega))
  rw[q]
  have e1:((r.length:Int) - (c:Int)).toNat=W - c:=by rw[hl];omega
  rw[e1,Int.toNat_natCast,List.take_of_length_le (by rw[List.length_drop,hx];exact Nat.le_refl _),List.take_of_length_le (l:=r.cps.toList.drop c) (i:=n) (by rw[List.length_drop,hx];omega)]
  rfl
theorem uW{bd:List Str}{W a m c n:Nat}(hr:∀r∈bd,r.length=W)(ha:a≤bd.length)(hc:c≤W):fR bd (a:Int) ((a:Int)+(m:Int)) (c:Int) ((c:Int)+(n:Int))=b7 bd a m c n:=by
 unfold fR b7 pB
 have e1:sIx bd.length 0 (some (a:Int))=a:=by rw[sIx_nat];omega
 have e2:sIx bd.length bd.length (some ((a:Int)+(m:Int)))=min (a+m) bd.length:=by
  have:(a:Int)+(m:Int)=((a+m:Nat):Int):=by omega
  rw[this,sIx_nat]
 rw[e1,e2]
 have e3:(bd.drop a).take (min (a+m) bd.length - a)=(bd.drop a).take m:=by
  by_cases h:a+m≤bd.length
  ·rw[Nat.min_eq_left h,Nat.add_sub_cancel_left]
  ·rw[Nat.min_eq_right (by omega),List.take_of_length_le (by rw[List.length_drop];exact Nat.le_refl _),List.take_of_length_le (by rw[List.length_drop];omega)]
 rw[e3]
 exact List.map_congr_left fun r h=>zQ (hr r (List.mem_of_mem_drop (List.mem_of_mem_take h))) hc
theorem de{bd:List Str}{a m c n:Nat}(h:a+m≤bd.length):(b7 bd a m c n).length=m:=by
 unfold b7
 rw[List.length_map,List.length_take,List.length_drop]
 omega
theorem qS{bd:List Str}{a m c n i:Nat}(hi:i<m)(ha:a+i<bd.length):(b7 bd a m c n)[i]? =some (qI ((bd[a+i].cps.toList.drop c).take n)):=by
 unfold b7
 rw[List.getElem?_map,List.getElem?_take_of_lt hi,List.getElem?_drop,List.getElem?_eq_getElem ha]
 rfl
theorem hJ{bd:List Str}{W a m c n i j:Nat}(hr:∀r∈bd,r.length=W)(hi:i<m)(hj:j<n)(ha:a+i<bd.length)(hc:c+j<W):at2 (b7 bd a m c n) i j=at2 bd (a+i) (c+j):=by
 have hw:bd[a+i].cps.toList.length=W:=hr _ (List.getElem_mem ha)
 have h1:i<(b7 bd a m c n).length:=by unfold b7;rw[List.length_map,List.length_take,List.length_drop];omega
 have e1:(b7 bd a m c n)[i].cps.toList=(bd[a+i].cps.toList.drop c).take n:=by
  rw[AR (qS hi ha) h1,b5]
 have h2:j<(b7 bd a m c n)[i].cps.toList.length:=by rw[e1,List.length_take,List.length_drop,hw];omega
 rw[f6 h1 h2,f6 ha (by rw[hw];exact hc)]
 have:(b7 bd a m c n)[i].cps.toList[j]? =bd[a+i].cps.toList[c+j]? :=by rw[e1,List.getElem?_take_of_lt hj,List.getElem?_drop]
 rw[List.getElem?_eq_getElem h2,List.getElem?_eq_getElem (by rw[hw];exact hc)] at this
 exact Option.some.inj this
theorem dX{bd pt:List Str}{W V:Nat}(hg:Brd bd W)(hp:Brd pt V){x:Cell}(hx:On bd.length W x):
 bA bd pt V x=true↔x.1+pt.length≤bd.length∧x.2+V≤W∧∀i j,i<pt.length→j<V→at2 bd (x.1+i) (x.2+j)=at2 pt i j:=by
 have h1:=hx.1
 have h2:=hx.2
 have hr:∀r∈bd,r.length=W:=fun r q=>(hg.rows r q).len
 have Na:∀r∈pt,r.length=V:=fun r q=>(hp.rows r q).len
 unfold bA
 rw[decide_eq_true_eq,uW hr (Nat.le_of_lt h1) (Nat.le_of_lt h2)]
 constructor
 ·intro e
  have hl:=congrArg List.length e
  unfold b7 at hl
  rw[List.length_map,List.length_take,List.length_drop] at hl
  have p1:=hp.r1
  have a1:x.1+pt.length≤bd.length:=by omega
  have a2:x.2+V≤W:=by
   have e0:pt[0]? =some (qI ((bd[x.1+0].cps.toList.drop x.2).take V)):=by
    have:=qS (bd:=bd) (a:=x.1) (m:=pt.length) (c:=x.2) (n:=V) (i:=0) p1 h1
    rwa [e] at this
   have e3:(qI ((bd[x.1+0].cps.toList.drop x.2).take V)).length=V:=Na _ (List.mem_of_getElem? e0)
   have hw:bd[x.1+0].cps.toList.length=W:=hr _ (List.getElem_mem _)
   rw[jM,List.length_take,List.length_drop,hw] at e3
   have:=hp.w1
   omega
  refine⟨a1,a2,fun i j hi hj=>?_⟩
  rw[←hJ (m:=pt.length) (n:=V) hr hi hj (by omega) (by omega),e]
 ·rintro⟨a1,a2,h⟩
  refine xC (W:=V) (fun r E6=>?_) Na (de a1) fun i j hi hj=>?_
  ·unfold b7 at E6
   obtain⟨q,hq,rfl⟩:=List.mem_map.mp E6
   have hw:q.cps.toList.length=W:=hr q (List.mem_of_mem_drop (List.mem_of_mem_take hq))
   rw[jM,List.length_take,List.length_drop,hw]
   omega
  ·rw[de a1] at hi
   rw[hJ hr hi hj (by omega) (by omega)]
   exact h i j hi hj
theorem qw{bd pt:List Str}{W V:Nat}(hG:Good bd W)(hP:Good pt V){r c:Nat}(hc:c+V≤W)(hr:r<bd.length):bA (dY bd) (dY pt) V (r,W - V - c)=bA bd pt V (r,c):=by
 have hl:(dY bd).length=bd.length:=List.length_map ..
 have xQ:(dY pt).length=pt.length:=List.length_map ..
 have v1:=hP.w1
 have b1:∀r∈bd,r.length=W:=fun r q=>(hG.rows r q).len
 have b2:∀r∈pt,r.length=V:=fun r q=>(hP.rows r q).len
 rw[Bool.eq_iff_iff,dX (eD hG).brd (eD hP).brd ⟨by rw[hl];exact hr,by show W - V - c<W;omega⟩,dX hG.brd hP.brd ⟨hr,by show c<W;omega⟩,hl,xQ]
 constructor
 ·rintro⟨a1,a2,h⟩
  refine⟨a1,hc,fun i j hi hj=>?_⟩
  have q:=h i (V - 1 - j) hi (by omega)
  rw[mR b1 (by show r+i<_;omega) (by show W - V - c+(V - 1 - j)<W;omega),mR b2 hi (by omega)] at q
  have e1:W - 1 - (W - V - c+(V - 1 - j))=c+j:=by omega
  have e2:V - 1 - (V - 1 - j)=j:=by omega
  rw[e2] at q
  rw[show ((r,W - V - c):Cell).2=W - V - c from rfl,e1] at q
  exact q
 ·rintro⟨a1,a2,h⟩
  refine⟨a1,by show W - V - c+V≤W;omega,fun i j hi hj=>?_⟩
  have q:=h i (V - 1 - j) hi (by omega)
  rw[mR b1 (by show r+i<_;omega) (by show W - V - c+j<W;omega),mR b2 hi hj]
  have e1:W - 1 - (W - V - c+j)=c+(V - 1 - j):=by omega
  rw[show ((r,W - V - c):Cell).2=W - V - c from rfl,e1]
  exact q
theorem xr{f:Nat→Nat}{bd:List Str}{W i j:Nat}(hg:Brd bd W)(hi:i<bd.length)(hj:j<W):at2 (bd.map (mapR f)) i j=f (at2 bd i j):=sd (c:=(i,j)) hg ⟨hi,hj⟩
theorem Bf{f:Nat→Nat}{bd pt:List Str}{W V:Nat}(hG:Good bd W)(hP:Good pt V)(hf:ju f p0)(Kb:∀c∈p0,f c∈p0){x:Cell}(hx:On bd.length W x):bA (bd.map (mapR f)) (pt.map (mapR f)) V x=bA bd pt V x:=by
 have NZ:=gY hG fun c hc=>Kb c (dg hG.brd hc)
 have FL:=gY hP fun c hc=>Kb c (dg hP.brd hc)
 have hl:(bd.map (mapR f)).length=bd.length:=List.length_map ..
 have xQ:(pt.map (mapR f)).length=pt.length:=List.length_map ..
 rw[Bool.eq_iff_iff,dX NZ.brd FL.brd (by rw[hl];exact hx),dX hG.brd hP.brd hx,hl,xQ]
 refine and_congr_right fun a1=>and_congr_right fun a2=>?_
 refine forall_congr' fun i=>forall_congr' fun j=>imp_congr_right fun hi=>imp_congr_right fun hj=>?_
 have o1:On bd.length W (x.1+i,x.2+j):=⟨by show x.1+i<_;omega,by show x.2+j<_;omega⟩
 have o2:On pt.length V (i,j):=⟨hi,hj⟩
 rw[xr hG.brd o1.1 o1.2,xr hP.brd hi hj]
 exact⟨fun e=>hf _ (dg hG.brd (mQ hG.brd o1)) _ (dg hP.brd (mQ hP.brd o2)) e,fun e=>by rw[e]⟩
theorem vT{bd:List Str}{W:Nat}(hg:Brd bd W){x y:Cell}(hx:On bd.length W x)(hy:On bd.length W y)(h1:x.1≤y.1)(h2:x.2≤y.2):
 bF [brd bd, .int (x.1:Int), .int (x.2:Int), .int (y.1:Int), .int (y.2:Int)]=M.ret (brd (b7 bd x.1 (y.1+1 - x.1) x.2 (y.2+1 - x.2))):=by
 have t:kE (df (d2 Iq (dV 3) (dV 1))) (df (d2 Iq (dV 4) (dV 2))) [fz (brd bd),fz (.int (x.1:Int)),fz (.int (x.2:Int)),fz (.int (y.1:Int)),fz (.int (y.2:Int))]=M.ret false:=by
  refine(tY (p:=decide ((y.1:Int)<(x.1:Int))) (q:=decide ((y.2:Int)<(x.2:Int))) (fC rfl) (fC rfl)).trans ?_
  rw[decide_eq_false (by omega),decide_eq_false (by omega)]
  rfl
 refine aX (ar (b9 ((ah (ds:=[brd bd]) rfl rfl).trans hg.nb)) (ar (b9 ((ah (ds:=[brd bd,cD x]) rfl rfl).trans (hg.nc hx))) (ar (b9 ((ah (ds:=[brd bd,cD y]) rfl rfl).trans (hg.nc hy))) (ar (cu t rfl) (aD ((ah (ds:=[brd bd, .int (x.1:Int), .int (x.2:Int), .int (y.1:Int), .int (y.2:Int)]) rfl rfl).trans ((fS hg ..).trans ?_)))))))
 have e1:(y.1:Int)+1=(x.1:Int)+((y.1+1 - x.1:Nat):Int):=by omega
 have e2:(y.2:Int)+1=(x.2:Int)+((y.2+1 - x.2:Nat):Int):=by omega
 rw[e1,e2,uW (fun r q=>(hg.rows r q).len) (Nat.le_of_lt hx.1) (Nat.le_of_lt hx.2)]
theorem ji{bd:List Str}{W a m c n:Nat}(hG:Good bd W)(hm:1≤m)(hn:1≤n)(ha:a+m≤bd.length)(hc:c+n≤W):Good (b7 bd a m c n) n:=by
 have r5:=hG.r5
 have w5:=hG.w5
 refine⟨by rw[de ha];exact hm,by rw[de ha];omega,hn,by omega,fun r hr=>?_⟩
 unfold b7 at hr
 obtain⟨q,hq,rfl⟩:=List.mem_map.mp hr
 have hq:=hG.rows q (List.mem_of_mem_drop (List.mem_of_mem_take hq))
 have hw:q.cps.toList.length=W:=hq.len
 refine⟨?_,fun z hz=>hq.let' z ?_⟩
 ·rw[jM,List.length_take,List.length_drop,hw]
  omega
 ·rw[b5] at hz
  exact List.mem_of_mem_drop (List.mem_of_mem_take hz)
theorem Cw{l:List Cell}(h:RiseC l):i5 l=l:=la (jr h.nodup) h fun x=>kT
theorem EA{l:List Cell}(h:l.Nodup)(hl:l.length<64):Ez [cL l]=M.ret (cL (i5 l)):=by
 show (match eL (l.map cD) with | some ks=>if cC ks then M.ret (D.lst ((sortI ks).map tupI)) else M.stuck | none=>M.stuck)=_
 rw[nG]
 refine(if_pos (By h hl)).trans ?_
 rw[iH,List.map_map]
 rfl
theorem xa{R W:Nat}(hR:R≤8)(hW:W≤8){l:List Cell}(h:RiseC l)(hl:l.length<64)(y6:∀x∈l,On R W x):kj (cL l)=M.ret (cL l):=by
 show (match eL (l.map cD) with | some ks=>if cC ks=true∧(ks.map dF).Nodup then M.ret (D.lst ((sortI ks).map tupI)) else M.stuck | none=>M.stuck)=_
 rw[nG]
 refine(if_pos ⟨By h.nodup hl,by rw[List.map_map];exact xM hR hW h.nodup y6⟩).trans ?_
 rw[iH,Cw h,List.map_map]
 rfl
section
open Classical
variable{bd z3:List Str}{W w:Nat}
theorem rM(hl:z3.length=bd.length)(h:∀a b,On bd.length W a→On bd.length W b→(lt z3 a=lt z3 b↔lt bd a=lt bd b))(hw:Ways w){a b:Cell}(ha:On bd.length W a):Cn z3 W w a b↔Cn bd W w a b:=by
 have lk:∀c,On bd.length W c→∀x,x∈a8 z3 W w c↔x∈a8 bd W w c:=fun c hc x=>by
  rw[eC hw,eC hw,hl]
  exact and_congr_right fun hx=>and_congr_right fun _=>h x c hx hc
 have rb:∀{j:Nat}{b:Cell},Rb (a8 z3 W w) a j b↔Rb (a8 bd W w) a j b:=by
  intro j
  induction j with
  |zero=>exact Iff.rfl
  |succ j ih=>
   intro b
   constructor
   ·rintro(q | ⟨c,q1,q2⟩)
    ·exact .inl (ih.mp q)
    ·exact .inr ⟨c,ih.mp q1,(lk c (u5 hw ha (ih.mp q1)) b).mp q2⟩
   ·rintro(q | ⟨c,q1,q2⟩)
    ·exact .inl (ih.mpr q)
    ·exact .inr ⟨c,ih.mpr q1,(lk c (u5 hw ha q1) b).mpr q2⟩
 exact exists_congr fun j=>rb
theorem uX(hl:z3.length=bd.length)(h:∀a b,On bd.length W a→On bd.length W b→(lt z3 a=lt z3 b↔lt bd a=lt bd b))(hw:Ways w):bS z3 W w=bS bd W w:=by
 have hm:d9 z3 W w (aH z3.length W)=d9 bd W w (aH bd.length W):=by
  unfold d9
  rw[hl]
  refine List.filter_congr fun x hx=>decide_eq_decide.mpr ?_
  have hx:=aS.mp hx
  unfold Least
  rw[rM hl h hw hx]
  exact and_congr_right fun _=>forall_congr' fun z=>by rw[rM hl h hw hx]
 unfold bS
 rw[hm]
 refine List.map_congr_left fun m hm=>?_
 have Lm:=Bj hm
 unfold bo
 rw[hl]
 exact List.filter_congr fun x _=>decide_eq_decide.mpr (rM hl h hw Lm)
end
theorem AQ{p q c:Nat}:pj q p (pj p q c)=c:=by
 unfold pj
 repeat' split
 all_goals omega
abbrev vG(s b t l lo ri p so:D)(x8 x9 EG EH Px Py Pz EI:Option Sl):aY:=[fz s,fz b,fz t,fz l,fz lo,fz ri,fz p,fz so,x8,x9,EG,EH,Px,Py,Pz,EI]
def Hs:DS:=(du [12,13,14] (aG (cx 14 (ak 3 cf (aC (dV 1) (aC (dV 12) (aC (dV 13) aN))))) (aG (fk (kE (df (d2 mB (ak 3 cf (aC (dV 14) (aC (dV 13) (aC (dV 12) aN)))) (dV 1))) (b6 (bH (ak 2 bh (aC (dV 14) (aC (dV 1) aN)))))) (bc (dC (.bl false))) b_) (aG (fk (df (d2 mB (ak 1 aI (aC (dV 14) aN)) (ak 1 aI (aC (dV 1) aN)))) (bc (dC (.bl false))) b_) (aG (fk (df (d2 mB (a9 0 (fc (dA bB (aC (dC (.int 4)) (aC (dC (.int 8)) aN)))) bw (ak 2 cb (aC (dV 15) (aC (dV 0) aN)))) (a9 0 (fc (dA bB (aC (dC (.int 4)) (aC (dC (.int 8)) aN)))) bw (ak 2 cb (aC (dV 2) (aC (dV 0) aN)))))) (bc (dC (.bl false))) b_) (fk (df (d2 mB (ak 2 aR (aC (dV 14) (aC (ak 3 cf (aC (dV 6) (aC (dV 12) (aC (dV 13) aN)))) aN))) (dV 7))) (bc (dC (.bl false))) b_))))))
def H8(Ps:List (List Cell)):D:= .lst (Ps.map cL)
theorem Dg:iP 3 H8:=mM (mM Az)
theorem CC{bd pt:List Str}{W V:Nat}(hG:Good bd W)(hP:Good pt V)(hs:bd.length*W<64){p q:Nat}(hp:p∈p0)(hq:q∈p0)(s t l lo ri:D)(x8 x9 EG EH EI:Option Sl):
 Hs (vG s (brd bd) t l lo ri (brd pt) (cL ((aH bd.length W).filter (bA bd pt V))) x8 x9 EG EH (fz (sg p)) (fz (sg q)) none EI)=M.ret (.nx (vG s (brd bd) t l lo ri (brd pt) (cL ((aH bd.length W).filter (bA bd pt V))) x8 x9 EG EH none none none EI)):=by
 have hg:=hG.brd
 have Lx:=v8 hp
 have Lz:=v8 hq
 have fa:∀c∈p0,pj p q c∈p0:=fun c hc=>Ht hp hq hc
 have hN:=gY hG fun c hc=>fa c (dg hg hc)
 have N2:=gY hP fun c hc=>fa c (dg hP.brd hc)
 have hl:(bd.map (mapR (pj p q))).length=bd.length:=List.length_map ..
 have inj:ju (pj p q) (eg bd):=fun a ha b hb=>CD a (dg hg ha) b (dg hg hb)
 have Gf:b0 (bd.map (mapR (pj p q)))=b0 bd:=u7 inj
 have EW:(bd.map (mapR (pj p q))).map (mapR (pj q p))=bd:=by
  rw[List.map_map]
  conv=>rhs;rw[←List.map_id bd]
  refine List.map_congr_left fun r _=>?_
  show mapR _ (mapR _ r)=_
  rw[qy]
  exact DR fun c _=>AQ
 have IX:∀{w:Nat},Ways w→bS (bd.map (mapR (pj p q))) W w=bS bd W w:=fun hw=>uX hl (fun a b ha hb=>by
  rw[sd hg ha,sd hg hb]
  exact⟨fun e=>inj _ (mQ hg ha) _ (mQ hg hb) e,fun e=>by rw[e]⟩) hw
 have MX:aR [brd (bd.map (mapR (pj p q))),brd (pt.map (mapR (pj p q)))]=M.ret (cL ((aH bd.length W).filter (bA bd pt V))):=by
  rw[fI hN.brd N2.brd,hl,List.filter_congr fun x hx=>Bf hG hP CD fa (aS.mp hx)]
 generalize OI:bd.map (mapR (pj p q))=nb at hN hl Gf EW IX MX
 have hn:=hN.brd
 have OW:nb.length*W<64:=by rw[hl];exact hs
 have Pg:bh [brd nb,brd bd]=M.ret (.bl true):=(jw hn hg).trans (by show M.ret (D.bl (decide (b0 nb=b0 bd)))=_;rw[Gf,decide_eq_true rfl])
 have cmp:∀{i:Nat}{b:List Str}{ρ:aY},Brd b W→b.length*W<64→ρ[i]? =some (fz (brd b))→(∀w,Ways w→bS b W w=bS bd W w)→a9 0 (fc (dA bB (aC (dC (.int 4)) (aC (dC (.int 8)) aN)))) bw (ak 2 cb (aC (dV (i+1)) (aC (dV 0) aN))) ρ=M.ret (.lst ([bS bd W 4,bS bd W 8].map H8)):=by
  intro i b ρ hb K2 h0 mD
  refine bC (ds:=[4,8].map fun(k:Nat)=>D.int (k:Int)) rfl ?_ (show 2≤lim by decide)
  have:[bS bd W 4,bS bd W 8].map H8=[4,8].map fun w=>H8 (bS bd W w):=rfl
  rw[this]
  refine i9 (fun (k:Nat)=>D.int (k:Int)) (fun w=>H8 (bS bd W w)) [4,8] fun w hw=>?_
  have hw:Ways w:=by simp only[List.mem_cons,List.not_mem_nil,or_false] at hw;exact hw
  rw[gM,(ah (ds:=[brd b, .int (w:Int)]) (aE (eG h0) rfl) rfl:ak 2 cb (aC (dV (i+1)) (aC (dV 0) aN)) _=_),uY hb K2 hw,mD w hw]
  rfl
 refine(bJ (ρ':=vG s (brd bd) t l lo ri (brd pt) (cL ((aH bd.length W).filter (bA bd pt V))) x8 x9 EG EH (fz (sg p)) (fz (sg q)) (fz (brd nb)) EI) ?_).trans rfl
 refine ar (ρ':=vG s (brd bd) t l lo ri (brd pt) (cL ((aH bd.length W).filter (bA bd pt V))) x8 x9 EG EH (fz (sg p)) (fz (sg q)) (fz (brd nb)) EI) ((aZ ((ah (ds:=[brd bd,sg p,sg q]) rfl rfl).trans ((iq hg Lx Lz).trans (by rw[OI])))).trans rfl) ?_
 refine ar (cu ((tY (p:=false) (q:=false) (fC ((aJ (y:=brd bd) ((ah (ds:=[brd nb,sg q,sg p]) rfl rfl).trans ((iq hn Lz Lx).trans (by rw[EW]))) rfl).trans ((kI gf (by decide) _ _).trans (by rw[decide_eq_true rfl];rfl)))) (ni (b:=true) (ja ((ah (ds:=[brd nb,brd bd]) rfl rfl).trans Pg)))).trans rfl) rfl) ?_
 refine ar (cu (fC ((aJ (x:=brd (b0 nb)) (y:=brd (b0 bd)) ((ah (ds:=[brd nb]) rfl rfl).trans (bD hn)) ((ah (ds:=[brd bd]) rfl rfl).trans (bD hg))).trans ((kI gf (by decide) _ _).trans (by rw[Gf,decide_eq_true rfl];rfl)))) rfl) ?_
 refine ar (cu (fC ((aJ (cmp (i:=14) hn OW rfl fun w hw=>IX hw) (cmp (i:=1) hg hs rfl fun w hw=>rfl)).trans ((kI (mM Dg) (by decide) [bS bd W 4,bS bd W 8] [bS bd W 4,bS bd W 8]).trans (by rw[decide_eq_true rfl];rfl)))) rfl) ?_
 exact cu (fC ((aJ (y:=cL ((aH bd.length W).filter (bA bd pt V))) ((ah (ds:=[brd nb,brd (pt.map (mapR (pj p q)))]) (aE rfl (aE ((ah (ds:=[brd pt,sg p,sg q]) rfl rfl).trans (iq hP.brd Lx Lz)) rfl)) rfl).trans MX) rfl).trans ((yd _ _).trans (by rw[decide_eq_true rfl];rfl)))) rfl
theorem JO{i j:Nat}{δ:DE}{ρ ρ':aY}{a b:D}(h:δ ρ=M.ret (.tup [a,b]))(hp:oK [i,j] (.tup [a,b]) ρ=some ρ'):Cf (oK [i,j]) δ ρ=M.ret (.nx ρ'):=by
 unfold Cf
 rw[h,aj,hp]
theorem Dq{bd:List Str}{W:Nat}(hg:Brd bd W):gN (fe bd) (lt bd (0,0))=97:=by
 have r1:=hg.r1
 have w1:=hg.w1
 have hw:bd[0].cps.toList.length=W:=(hg.rows _ (List.getElem_mem _)).len
 have e0:lt bd (0,0)=bd[0].cps.toList[0]:=f6 r1 (by rw[hw];exact w1)
 have e1:∃t,eg bd=lt bd (0,0)::t:=by
  obtain⟨r,t,rfl⟩:∃r t,bd=r::t:=by
   cases bd with
   |nil=>exact absurd r1 (by decide)
   |cons r t=>exact⟨r,t,rfl⟩
  rw[e0]
  cases hr:r.cps.toList with
  |nil=>rw[show (r::t)[0]=r from rfl,hr] at hw;simp at hw;omega
  |cons c u=>
   refine⟨u++eg t,?_⟩
   show r.cps.toList++_=_
   rw[hr]
   simp[hr,eg]
 obtain⟨t,et⟩:=e1
 obtain⟨u,eu⟩:=qg t [lt bd (0,0)]
 have em:fe bd=lt bd (0,0)::u:=by
  unfold fe
  rw[et,List.foldl_cons]
  exact eu
 rw[xJ (by rw[em];exact List.mem_cons_self ..),em,List.idxOf_cons_self]
theorem Bc(ns:List Int)(hl:ns.length≤63):iB [.scr ns]=M.ret (.bl true):=by
 obtain⟨bd,W,hG,eb⟩:=yE ns hl 0 5 (by decide) (by decide)
 have hg:=hG.brd
 have r5:=hG.r5
 have w5:=hG.w5
 have hs:bd.length*W<64:=by
  have:=Nat.mul_le_mul r5 w5
  omega
 obtain⟨x,hx,ex⟩:=tU ns hl hg 60
 have Qc:=hx.1
 have Qd:=hx.2
 obtain⟨u,hu,eu⟩:=c9 ns hl 62 (bd.length - x.1) (by omega)
 obtain⟨v,hv,ev⟩:=c9 ns hl 63 (W - x.2) (by omega)
 have eu:aA [.scr ns, .int 62, .int ((bd.length:Int) - (x.1:Int))]=M.ret (.int (u:Int)):=by
  rw[show (bd.length:Int) - (x.1:Int)=((bd.length - x.1:Nat):Int) by omega]
  exact eu
 have ev:aA [.scr ns, .int 63, .int ((W:Int) - (x.2:Int))]=M.ret (.int (v:Int)):=by
  rw[show (W:Int) - (x.2:Int)=((W - x.2:Nat):Int) by omega]
  exact ev
 have hy:On bd.length W (x.1+u,x.2+v):=⟨by show x.1+u<_;omega,by show x.2+v<_;omega⟩
 have Ig:bF [brd bd, .int (x.1:Int), .int (x.2:Int), .int ((x.1:Int)+(u:Int)), .int ((x.2:Int)+(v:Int))]=M.ret (brd (b7 bd x.1 (u+1) x.2 (v+1))):=by
  have:=vT hg hx hy (by show x.1≤x.1+u;omega) (by show x.2≤x.2+v;omega)
  rw[show ((x.1+u,x.2+v):Cell).1+1 - x.1=u+1 by show x.1+u+1 - x.1=_;omega,show ((x.1+u,x.2+v):Cell).2+1 - x.2=v+1 by show x.2+v+1 - x.2=_;omega] at this
  exact this
 have CY:=ji hG (m:=u+1) (n:=v+1) (a:=x.1) (c:=x.2) (by omega) (by omega) (by omega) (by omega)
 have vZ:(b7 bd x.1 (u+1) x.2 (v+1)).length=u+1:=de (by omega)
 have Iv:∀i j,i<u+1→j<v+1→at2 (b7 bd x.1 (u+1) x.2 (v+1)) i j=at2 bd (x.1+i) (x.2+j):=fun i j hi hj=>hJ (fun r q=>(hg.rows r q).len) hi hj (by omega) (by omega)
 generalize PQ:b7 bd x.1 (u+1) x.2 (v+1)=P at Ig CY vZ Iv
 have hp:=CY.brd
 have OC:bA bd P (v+1) x=true:=(dX hg hp hx).mpr ⟨by omega,by omega,fun i j hi hj=>(Iv i j (by omega) hj).symm⟩
 have KU:RiseC ((aH bd.length W).filter (bA bd P (v+1))):=(eV _ _).filter _
 have um:∀y∈(aH bd.length W).filter (bA bd P (v+1)),On bd.length W y:=fun y q=>aS.mp (List.mem_filter.mp q).1
 have KS:((aH bd.length W).filter (bA bd P (v+1))).length<64:=Nat.lt_of_le_of_lt (List.length_filter_le ..) (by rw[c7];exact hs)
 have Iy:∀y,y∈(aH bd.length W).filter (bA bd P (v+1))↔On bd.length W y∧bA bd P (v+1) y=true:=fun y=>by rw[List.mem_filter,aS]
 have MA:=fI hg hp
 have MB:∀{p q:Nat},p∈p0→q∈p0→∀(s t l lo ri:D) (x8 x9 EG EH EI:Option Sl),Hs (vG s (brd bd) t l lo ri (brd P) (cL ((aH bd.length W).filter (bA bd P (v+1)))) x8 x9 EG EH (fz (sg p)) (fz (sg q)) none EI)=M.ret (.nx (vG s (brd bd) t l lo ri (brd P) (cL ((aH bd.length W).filter (bA bd P (v+1)))) x8 x9 EG EH none none none EI)):=fun Kg OQ=>CC hG CY hs Kg OQ
 generalize PR:(aH bd.length W).filter (bA bd P (v+1))=S at KU um KS Iy MA MB
 have lb:∀y,y∈S→y.1+(u+1)≤bd.length∧y.2+(v+1)≤W∧∀i j,i<u+1→j<v+1→at2 bd (y.1+i) (y.2+j)=at2 P i j:=fun y q=>by
  have:=(dX hg hp (um y q)).mp ((Iy y).mp q).2
  rw[vZ] at this
  exact this
 refine aX ?_
 refine ar (ρ':=[fz (.scr ns),fz (brd bd),none,none,none,none,none,none,none,none,none,none,none,none,none,none]) ((aZ ((ah (ds:=[.scr ns, .int 0, .int 5]) rfl rfl).trans eb)).trans rfl) ?_
 refine ar (ρ':=[fz (.scr ns),fz (brd bd),fz (.int (x.1:Int)),fz (.int (x.2:Int)),none,none,none,none,none,none,none,none,none,none,none,none]) (JO ((ah (ds:=[.scr ns, .int 60,brd bd]) rfl rfl).trans ex) rfl) ?_
 refine ar (ρ':=[fz (.scr ns),fz (brd bd),fz (.int (x.1:Int)),fz (.int (x.2:Int)),fz (.int ((x.1:Int)+(u:Int))),none,none,none,none,none,none,none,none,none,none,none]) ((aZ ((aJ (x:= .int (x.1:Int)) rfl ((ah (ds:=[.scr ns, .int 62, .int ((bd.length:Int) - (x.1:Int))]) (aE rfl (aE rfl (aE ((aJ (Be (i:=1) rfl) rfl).trans rfl) rfl))) rfl).trans eu)).trans rfl)).trans rfl) ?_
 refine ar (ρ':=[fz (.scr ns),fz (brd bd),fz (.int (x.1:Int)),fz (.int (x.2:Int)),fz (.int ((x.1:Int)+(u:Int))),fz (.int ((x.2:Int)+(v:Int))),none,none,none,none,none,none,none,none,none,none]) ((aZ ((aJ (x:= .int (x.2:Int)) rfl ((ah (ds:=[.scr ns, .int 63, .int ((W:Int) - (x.2:Int))]) (aE rfl (aE rfl (aE ((aJ (hg.len0 (i:=1) rfl) rfl).trans rfl) rfl))) rfl).trans ev)).trans rfl)).trans rfl) ?_
 refine ar (ρ':=[fz (.scr ns),fz (brd bd),fz (.int (x.1:Int)),fz (.int (x.2:Int)),fz (.int ((x.1:Int)+(u:Int))),fz (.int ((x.2:Int)+(v:Int))),fz (brd P),none,none,none,none,none,none,none,none,none]) ((aZ ((ah (ds:=[brd bd, .int (x.1:Int), .int (x.2:Int), .int ((x.1:Int)+(u:Int)), .int ((x.2:Int)+(v:Int))]) rfl rfl).trans Ig)).trans rfl) ?_
 refine ar (ρ':=vG (.scr ns) (brd bd) (.int (x.1:Int)) (.int (x.2:Int)) (.int ((x.1:Int)+(u:Int))) (.int ((x.2:Int)+(v:Int))) (brd P) (cL S) none none none none none none none none) ((aZ ((ah (ds:=[brd bd,brd P]) rfl rfl).trans MA)).trans rfl) ?_
 refine ar (cu ((tY (p:=false) (q:=false) (fC ((aJ (x:=cD x) (y:=cL S) rfl rfl).trans (xW.trans (by rw[decide_eq_true ((Iy x).mpr ⟨hx,OC⟩)];rfl)))) (fC ((aJ (x:=cL S) (y:=cL S) rfl (xa hg.r8 hg.w8 KU KS um)).trans ((yd _ _).trans (by rw[decide_eq_true rfl];rfl))))).trans rfl) rfl) ?_
 have fw:=ue hg hg rfl
 rw[if_pos rfl] at fw
 refine ar (cu (fC ((aJ (y:=cL [(0,0)]) ((ah (ds:=[brd bd,brd bd]) rfl rfl).trans fw) rfl).trans ((yd _ _).trans (by rw[decide_eq_true rfl];rfl)))) rfl) ?_
 refine ar (ρ':=vG (.scr ns) (brd bd) (.int (x.1:Int)) (.int (x.2:Int)) (.int ((x.1:Int)+(u:Int))) (.int ((x.2:Int)+(v:Int))) (brd P) (cL S) none none none none none none none none) (el (h7 (ds:=S.map cD) rfl (kJ cD _ S fun y hy=>?_))) ?_
 ·obtain⟨l1,l2,l3⟩:=lb y hy
  have O8:=um y hy
  have hz:On bd.length W (y.1+u,y.2+v):=⟨by show y.1+u<_;omega,by show y.2+v<_;omega⟩
  have ec:bF [brd bd, .int (y.1:Int), .int (y.2:Int), .int ((y.1:Int)+((x.1:Int)+(u:Int)) - (x.1:Int)), .int ((y.2:Int)+((x.2:Int)+(v:Int)) - (x.2:Int))]=M.ret (brd P):=by
   have:=vT hg O8 hz (by show y.1≤y.1+u;omega) (by show y.2≤y.2+v;omega)
   rw[show ((y.1+u,y.2+v):Cell).1+1 - y.1=u+1 by show y.1+u+1 - y.1=_;omega,show ((y.1+u,y.2+v):Cell).2+1 - y.2=v+1 by show y.2+v+1 - y.2=_;omega] at this
   rw[show (y.1:Int)+((x.1:Int)+(u:Int)) - (x.1:Int)=((y.1+u:Nat):Int) by omega,show (y.2:Int)+((x.2:Int)+(v:Int)) - (x.2:Int)=((y.2+v:Nat):Int) by omega]
   refine this.trans ?_
   congr 2
   refine xC (W:=v+1) (fun r q=>((ji hG (by omega) (by omega) l1 l2).rows r q).len) (fun r q=>(CY.rows r q).len) (by rw[de l1,vZ]) fun i j hi hj=>?_
   rw[de l1] at hi
   rw[hJ (fun r q=>(hg.rows r q).len) hi hj (by omega) (by omega),l3 i j hi hj]
  refine⟨_,rfl,(bJ (cu (fC ((aJ (y:=brd P) ((ah (ds:=[brd bd, .int (y.1:Int), .int (y.2:Int), .int ((y.1:Int)+((x.1:Int)+(u:Int)) - (x.1:Int)), .int ((y.2:Int)+((x.2:Int)+(v:Int)) - (x.2:Int))]) rfl rfl).trans ec) rfl).trans ((kI gf (by decide) _ _).trans (by rw[decide_eq_true rfl];rfl)))) rfl)).trans rfl⟩
 refine ar (ρ':=vG (.scr ns) (brd bd) (.int (x.1:Int)) (.int (x.2:Int)) (.int ((x.1:Int)+(u:Int))) (.int ((x.2:Int)+(v:Int))) (brd P) (cL S) none none (fz (cL (S.map fun y=>(y.1,W - (v+1) - y.2)))) none none none none none) ((aZ (d:=cL (S.map fun y=>(y.1,W - (v+1) - y.2))) (bC (Nk (i:=7) rfl) ?_ (by rw[List.length_map,List.length_map,dD];omega))).trans rfl) ?_
 ·show cj _ (S.map cD)=M.ret ((S.map fun y=>(y.1,W - (v+1) - y.2)).map cD)
  rw[List.map_map]
  refine i9 cD _ S fun y hy=>?_
  obtain⟨_,l2,_⟩:=lb y hy
  have e:dA bB (aC (dV 0) (aC (d2 bX (d2 d5 (d2 d5 (d2 d5 (dA bt (aC (d2 a_ (dV 3) (dC (.int 0))) aN)) (dC (.int 1))) (dV 1)) (dV 7)) (dV 5)) aN)) (fz (.int (y.1:Int))::fz (.int (y.2:Int))::vG (.scr ns) (brd bd) (.int (x.1:Int)) (.int (x.2:Int)) (.int ((x.1:Int)+(u:Int))) (.int ((x.2:Int)+(v:Int))) (brd P) (cL S) none none none none none none none none)=M.ret (cD (y.1,W - (v+1) - y.2)):=by
   have e2:d2 bX (d2 d5 (d2 d5 (d2 d5 (dA bt (aC (d2 a_ (dV 3) (dC (.int 0))) aN)) (dC (.int 1))) (dV 1)) (dV 7)) (dV 5) (fz (.int (y.1:Int))::fz (.int (y.2:Int))::vG (.scr ns) (brd bd) (.int (x.1:Int)) (.int (x.2:Int)) (.int ((x.1:Int)+(u:Int))) (.int ((x.2:Int)+(v:Int))) (brd P) (cL S) none none none none none none none none)=M.ret (.int ((W:Int) - 1 - (y.2:Int) - ((x.2:Int)+(v:Int))+(x.2:Int))):=
    (aJ ((aJ ((aJ ((aJ (hg.len0 (i:=3) rfl) rfl).trans rfl) rfl).trans rfl) rfl).trans rfl) rfl).trans rfl
   refine(cQ (xs:=[.int (y.1:Int), .int ((W:Int) - 1 - (y.2:Int) - ((x.2:Int)+(v:Int))+(x.2:Int))]) (aE rfl (aE e2 rfl))).trans ?_
   rw[show (W:Int) - 1 - (y.2:Int) - ((x.2:Int)+(v:Int))+(x.2:Int)=((W - (v+1) - y.2:Nat):Int) by omega]
   rfl
  show (dA bB _ (fz (.int (y.1:Int))::fz (.int (y.2:Int))::vG (.scr ns) (brd bd) (.int (x.1:Int)) (.int (x.2:Int)) (.int ((x.1:Int)+(u:Int))) (.int ((x.2:Int)+(v:Int))) (brd P) (cL S) none none none none none none none none)>>=fun d=>M.ret (some d))=_
  rw[e]
  rfl
 have MR:(S.map fun y=>(y.1,W - (v+1) - y.2)).Nodup:=by
  rw[List.Nodup,List.pairwise_map]
  refine List.Pairwise.imp_of_mem (fun {a b} ha hb h z=>h ?_) KU.nodup
  obtain⟨_,l2,_⟩:=lb a ha
  obtain⟨_,l3,_⟩:=lb b hb
  have z1:=congrArg Prod.fst z
  have z2:=congrArg Prod.snd z
  simp at z1 z2
  exact Prod.ext z1 (by omega)
 have OE:aR [brd (dY bd),brd (dY P)]=M.ret (cL (i5 (S.map fun y=>(y.1,W - (v+1) - y.2)))):=by
  have M7:(dY bd).length=bd.length:=List.length_map ..
  rw[fI (eD hG).brd (eD CY).brd,M7]
  refine congrArg (fun l=>M.ret (cL l)) ?_
  refine la ((eV _ _).filter _) (jr MR) fun y=>?_
  rw[List.mem_filter,aS,kT,List.mem_map]
  constructor
  ·rintro⟨ho,Lj⟩
   have Lm:On (dY bd).length W y:=by rw[M7];exact ho
   have l2:=((dX (eD hG).brd (eD CY).brd Lm).mp Lj).2.1
   have Ng:y=(y.1,W - (v+1) - (W - (v+1) - y.2)):=Prod.ext rfl (by show y.2=_;omega)
   rw[Ng,qw hG CY (by omega) ho.1] at Lj
   exact⟨(y.1,W - (v+1) - y.2),(Iy _).mpr ⟨⟨ho.1,by show W - (v+1) - y.2<W;omega⟩,Lj⟩,Ng.symm⟩
  ·rintro⟨z,hz,rfl⟩
   obtain⟨_,l2,_⟩:=lb z hz
   refine⟨⟨(um z hz).1,by show W - (v+1) - z.2<W;omega⟩,?_⟩
   rw[qw hG CY l2 (um z hz).1]
   exact((Iy z).mp hz).2
 refine ar (cu (fC ((aJ ((ah (ds:=[brd (dY bd),brd (dY P)]) (aE ((ah (ds:=[brd bd]) rfl rfl).trans (jP hg)) (aE ((ah (ds:=[brd P]) rfl rfl).trans (jP hp)) rfl)) rfl).trans OE) ((cQ (xs:=[cL (S.map fun y=>(y.1,W - (v+1) - y.2))]) rfl).trans (EA MR (by rw[List.length_map];exact KS)))).trans ((yd _ _).trans (by rw[decide_eq_true rfl];rfl)))) rfl) ?_
 have Oo:On P.length (v+1) (0,0):=⟨by rw[vZ];exact Nat.succ_pos _,Nat.succ_pos _⟩
 have Oq:On P.length (v+1) (u / 2,v / 2):=⟨by rw[vZ];show u / 2<u+1;omega,by show v / 2<v+1;omega⟩
 have Mz:bF [brd P, .int 0, .int 0, .int ((u / 2:Nat):Int), .int ((v / 2:Nat):Int)]=M.ret (brd (b7 P 0 (u / 2+1) 0 (v / 2+1))):=vT hp Oo Oq (Nat.zero_le _) (Nat.zero_le _)
 have KP:=ji CY (m:=u / 2+1) (n:=v / 2+1) (a:=0) (c:=0) (by omega) (by omega) (by omega) (by omega)
 have KQ:(b7 P 0 (u / 2+1) 0 (v / 2+1)).length=u / 2+1:=de (by omega)
 have Iu:∀i j,i<u / 2+1→j<v / 2+1→at2 (b7 P 0 (u / 2+1) 0 (v / 2+1)) i j=at2 P i j:=fun i j hi hj=>by
  have:=hJ (bd:=P) (W:=v+1) (a:=0) (c:=0) (fun r q=>(CY.rows r q).len) hi hj (by omega) (by omega)
  rwa [Nat.zero_add,Nat.zero_add] at this
 generalize b7 P 0 (u / 2+1) 0 (v / 2+1)=I at Mz KP KQ Iu
 have gd:∀n:Nat,kK (.int (n:Int)) (.int 2)=M.ret (.int ((n / 2:Nat):Int)):=fun n=>gS (by decide) (by decide)
 refine ar (ρ':=vG (.scr ns) (brd bd) (.int (x.1:Int)) (.int (x.2:Int)) (.int ((x.1:Int)+(u:Int))) (.int ((x.2:Int)+(v:Int))) (brd P) (cL S) none none (fz (cL (S.map fun y=>(y.1,W - (v+1) - y.2)))) (fz (brd I)) none none none none) ((aZ ((ah (ds:=[brd P, .int 0, .int 0, .int ((u / 2:Nat):Int), .int ((v / 2:Nat):Int)]) (aE rfl (aE rfl (aE rfl (aE ((aJ (x:= .int (u:Int)) (y:= .int 2) ((aJ (x:= .int ((x.1:Int)+(u:Int))) (y:= .int (x.1:Int)) rfl rfl).trans (by rw[uh,show (x.1:Int)+(u:Int) - (x.1:Int)=(u:Int) by omega])) rfl).trans (gd u)) (aE ((aJ (x:= .int (v:Int)) (y:= .int 2) ((aJ (x:= .int ((x.2:Int)+(v:Int))) (y:= .int (x.2:Int)) rfl rfl).trans (by rw[uh,show (x.2:Int)+(v:Int) - (x.2:Int)=(v:Int) by omega])) rfl).trans (gd v)) rfl))))) rfl).trans Mz)).trans rfl) ?_
 refine ar (cu (zo (xs:=S) (Nk (i:=7) rfl) fun y hy=>?_) rfl) ?_
 ·obtain⟨l1,l2,l3⟩:=lb y hy
  have M4:bA bd I (v / 2+1) y=true:=(dX hg KP.brd (um y hy)).mpr ⟨by rw[KQ];omega,by omega,fun i j hi hj=>by
   rw[KQ] at hi
   rw[Iu i j hi hj]
   exact l3 i j (by omega) (by omega)⟩
  refine fC ((aJ (x:=cD y) (y:=cL ((aH bd.length W).filter (bA bd I (v / 2+1)))) rfl ((ah (ds:=[brd bd,brd I]) rfl rfl).trans (fI hg KP.brd))).trans (xW.trans ?_))
  rw[decide_eq_true (List.mem_filter.mpr ⟨aS.mpr (um y hy),M4⟩)]
  rfl
 refine ar (ρ':=vG (.scr ns) (brd bd) (.int (x.1:Int)) (.int (x.2:Int)) (.int ((x.1:Int)+(u:Int))) (.int ((x.2:Int)+(v:Int))) (brd P) (cL S) none none (fz (cL (S.map fun y=>(y.1,W - (v+1) - y.2)))) (fz (brd I)) none none none none) (el (h7 (ds:=[(97,98),(97,100),(101,102),(99,99)].map fun z:Nat×Nat=> .tup [sg z.1,sg z.2]) rfl (kJ (body:=Hs) (fun z:Nat×Nat=> .tup [sg z.1,sg z.2]) _ [(97,98),(97,100),(101,102),(99,99)] fun z hz=>?_))) ?_
 ·have:z.1∈p0∧z.2∈p0:=by
   simp only[List.mem_cons,List.not_mem_nil,or_false] at hz
   rcases hz with rfl | rfl | rfl | rfl<;>decide
  exact⟨_,rfl,MB this.1 this.2 ..⟩
 have OR:=Cb hG
 have hr:=OR.brd
 refine ar (ρ':=vG (.scr ns) (brd bd) (.int (x.1:Int)) (.int (x.2:Int)) (.int ((x.1:Int)+(u:Int))) (.int ((x.2:Int)+(v:Int))) (brd P) (cL S) none none (fz (cL (S.map fun y=>(y.1,W - (v+1) - y.2)))) (fz (brd I)) none none none (fz (brd (b0 bd)))) ((aZ (d:=brd (b0 bd)) ((ah (ds:=[brd bd]) rfl rfl).trans (bD hg))).trans rfl) ?_
 have Nb:b0 (b0 bd)=b0 bd:=u7 Ds
 have GA:∀{a b:List Str}{A B:Nat},Brd a A→Brd b B→bh [brd a,brd b]=M.ret (.bl (decide (b0 a=b0 b))):=fun h1 h2=>jw h1 h2
 have P9:(b0 bd).length=bd.length:=List.length_map ..
 have fst:d2 gE (d2 a_ (dV 15) (dC (.int 0))) (dC (.int 0)) (vG (.scr ns) (brd bd) (.int (x.1:Int)) (.int (x.2:Int)) (.int ((x.1:Int)+(u:Int))) (.int ((x.2:Int)+(v:Int))) (brd P) (cL S) none none (fz (cL (S.map fun y=>(y.1,W - (v+1) - y.2)))) (fz (brd I)) none none none (fz (brd (b0 bd))))=M.ret (sg 97):=by
  have h0:0<(b0 bd).length:=hr.r1
  refine(aJ ((aJ (x:=brd (b0 bd)) (y:= .int ((0:Nat):Int)) rfl rfl).trans (A9 h0)) (y:= .int ((0:Nat):Int)) rfl).trans ((yt ?_).trans ?_)
  ·rw[(hr.rows _ (getD_mem h0)).len]
   exact hr.w1
  ·have:ch ((b0 bd).getD 0 ⟨#[]⟩) 0=lt (b0 bd) (0,0):=rfl
   rw[this]
   have NV:On bd.length W (0,0):=⟨hg.r1,hg.w1⟩
   have:=sd (f:=gN (fe bd)) hg NV
   rw[show b0 bd=bd.map (mapR (gN (fe bd))) from rfl,this,Dq hg]
 refine ar (cu ((tY (p:=false) (q:=false) (fC ((aJ (x:=brd (b0 (b0 bd))) (y:=brd (b0 bd)) ((ah (ds:=[brd (b0 bd)]) rfl rfl).trans (bD hr)) rfl).trans ((kI gf (by decide) _ _).trans (by rw[Nb,decide_eq_true rfl];rfl)))) ((tY (p:=false) (q:=false) (ni (b:=true) (ja ((ah (ds:=[brd (b0 bd),brd bd]) rfl rfl).trans ((GA hr hg).trans (by rw[Nb,decide_eq_true rfl]))))) (fC ((aJ (y:=sg 97) fst rfl).trans rfl))).trans rfl)).trans rfl) rfl) ?_
 refine aD ((Dc (p:=true) (q:=true) ((aJ (x:= .bl (decide (b0 bd=b0 P))) (y:= .bl (decide (b0 P=b0 bd))) ((ah (ds:=[brd bd,brd P]) rfl rfl).trans (GA hg hp)) ((aJ (x:=brd (b0 P)) (y:=brd (b0 bd)) ((ah (ds:=[brd P]) rfl rfl).trans (bD hp)) rfl).trans (vU gf (by decide) _ _))).trans ((Ii _ _).trans ?_)) ((ah (ds:=[brd P,brd P]) rfl rfl).trans ((GA hp hp).trans (by rw[decide_eq_true rfl])))).trans rfl)
 rw[show decide (b0 P=b0 bd)=decide (b0 bd=b0 P) from decide_eq_decide.mpr ⟨Eq.symm,Eq.symm⟩,beq_self_eq_true]
end K1
namespace K1
open PySem PySem.Spec L2 L3
open PyProof.Rows hiding St
def DF(K:W.Frag)(x:Str)(s:Stmt):Prop:=∃(f:Addr) (oc:Value) (od an:Option Addr) (sl:Array (Option Value)) (kV dc pm cd ct:Value),PySem.W.nsIn K mainGlobals x=some (some (.ref f))∧K.lookup f=some ⟨oc,od, .func (PySem.W.fnOf x x (dN s) (aP s) (af s) .none kV dc pm an cd ct),sl⟩∧PySem.W.codeIn K cd x=true∧PySem.W.keepIn K (.ref f)=true
theorem DF.mk{K:W.Frag}{x:Str}{s:Stmt}{f:Addr}{oc:Value}{od an:Option Addr}{sl:Array (Option Value)}{kV dc pm cd ct:Value}(a:PySem.W.nsIn K mainGlobals x=some (some (.ref f)))(l:K.lookup f=some ⟨oc,od, .func (PySem.W.fnOf x x (dN s) (aP s) (af s) .none kV dc pm an cd ct),sl⟩)(c:PySem.W.codeIn K cd x=true)(k:PySem.W.keepIn K (.ref f)=true):DF K x s:=⟨f,oc,od,an,sl,kV,dc,pm,cd,ct,a,l,c,k⟩
theorem DF.at{K:W.Frag}{x:Str}{s:Stmt}{h:Heap}{mg:Str→Option Value}(X:K.In h)(G:h.Ns mainGlobals mg)(d:DF K x s):∃f,bq K mg x s f:=by
 obtain⟨f,oc,od,an,sl,kV,dc,pm,cd,ct,a,l,c,k⟩:=d
 exact⟨f,PySem.W.mg_of X G a,_,AJ (st:=s) l c k⟩
theorem all_mk{P:Program}{w:World}{K:W.Frag}{h:Heap}{mg:Str→Option Value}{fa:Addr}(X:K.In h)(G:h.Ns mainGlobals mg)(Kb:mg "law"=some (.ref fa))
 {jb:Addr}{wz mW:Option Addr}{w4:Array (Option Value)}{wy nN nj oH i7 nh:Value}
 {zR:Tok}
 {vo:Tok}
 {o5:Tok}
 (d_is_whole:DF K "is_whole" jm)
 (d_is_letter:DF K "is_letter" ib)
 (d_cells_of_row:DF K "cells_of_row" dz)
 (d_letter_of:DF K "letter_of" ig)
 (d_are_next:DF K "are_next" jl)
 (d_keyed:DF K "keyed" sS)
 (d_part_between:DF K "part_between" dB)
 (d_with_names:DF K "with_names" eA)
 (d_law_cell:DF K "_law_cell" jo)
 (d_is_row:DF K "is_row" kf)
 (d_is_cell:DF K "is_cell" lj)
 (d_need_letter:DF K "need_letter" fq)
 (d_need_ways:DF K "need_ways" ik)
 (d_all_cells:DF K "all_cells" h9)
 (d_next_cells:DF K "next_cells" gu)
 (d_lies_at:DF K "lies_at" lq)
 (d_law_drawn:DF K "_law_drawn" ie)
 (d_is_board:DF K "is_board" eQ)
 (d_need_cell:DF K "need_cell" ij)
 (d_like_cells:DF K "like_cells" ez)
 (d_law_board:DF K "_law_board" e_)
 (d_law_cell_in:DF K "_law_cell_in" fo)
 (d_need_board:DF K "need_board" gr)
 (d_steps_back:DF K "steps_back" gx)
 (d_mirrored:DF K "mirrored" gq)
 (d_cut_out:DF K "cut_out" lh)
 (d_found_in:DF K "found_in" gp)
 (d_relettered:DF K "relettered" gw)
 (d_swapped:DF K "swapped" lu)
 (d_all_patches:DF K "all_patches" fm)
 (d_are_like:DF K "are_like" jk)
 (d_patches:DF K "patches" lr)
 (a_law_k77:PySem.W.nsIn K mainGlobals "law"=some (some (.ref jb)))(l_law_k77:K.lookup jb=some ⟨wy,wz, .func (PySem.W.fnOf "law" "law" (dN ag) (aP ag) (af ag) .none nN nj oH mW i7 nh),w4⟩)(c_law_k77:PySem.W.codeIn K i7 "law"=true)(k_law_k77:PySem.W.keepIn K (.ref jb)=true)
 (z_len:PySem.W.nsIn K mainGlobals "len"=some none)
 (z_isinstance:PySem.W.nsIn K mainGlobals "isinstance"=some none)
 (z_all:PySem.W.nsIn K mainGlobals "all"=some none)
 (z_abs:PySem.W.nsIn K mainGlobals "abs"=some none)
 (z_max:PySem.W.nsIn K mainGlobals "max"=some none)
 (z_min:PySem.W.nsIn K mainGlobals "min"=some none)
 (z_range:PySem.W.nsIn K mainGlobals "range"=some none)
 (z_str:PySem.W.nsIn K mainGlobals "str"=some none)
 (z_int:PySem.W.nsIn K mainGlobals "int"=some none)
 (z_bool:PySem.W.nsIn K mainGlobals "bool"=some none)
 (z_tuple:PySem.W.nsIn K mainGlobals "tuple"=some none)
 (z_set:PySem.W.nsIn K mainGlobals "set"=some none)
 (z_sorted:PySem.W.nsIn K mainGlobals "sorted"=some none)
 (y_LETTERS:PySem.W.nsIn K mainGlobals "LETTERS"=some (some (.str "abcdef" zR)))
 (y_MOST_ROWS:PySem.W.nsIn K mainGlobals "MOST_ROWS"=some (some (.int 8 vo)))
 (y_MOST_COLUMNS:PySem.W.nsIn K mainGlobals "MOST_COLUMNS"=some (some (.int 8 o5))):
 ∃(cv:Nat→Value) (fd:FuncData),(∀(s:Shared) (u:Value),BindsTo s fd ⟨[u],[]⟩ [("_law_script",u)])∧∀base:Heap,K.In base→base.Ns mainGlobals mg→FnOk P w K mg base (iM P w cv) 7 fa fd ["_law_script"] (HN K cv 1 iB):=by
 have ea:=Kb.symm.trans (PySem.W.mg_of X G a_law_k77)
 cases ea
 refine⟨fun _=> .none,PySem.W.fnOf "law" "law" (dN ag) (aP ag) (af ag) .none nN nj oH mW i7 nh,fun s v=> .of_eq rfl,fun base KB GB=>?_⟩
 have B:Bl K mg base (fun _=> .none) (fun _=>mainGlobals) mainGlobals:=⟨PySem.W.mg_none_of X G z_len,PySem.W.mg_none_of X G z_isinstance,PySem.W.mg_none_of X G z_all,PySem.W.mg_none_of X G z_abs,PySem.W.mg_none_of X G z_max,PySem.W.mg_none_of X G z_min,PySem.W.mg_none_of X G z_range,PySem.W.mg_none_of X G z_str,PySem.W.mg_none_of X G z_int,PySem.W.mg_none_of X G z_bool,PySem.W.mg_none_of X G z_tuple,PySem.W.mg_none_of X G z_set,PySem.W.mg_none_of X G z_sorted,⟨_,PySem.W.mg_of X G y_LETTERS⟩,⟨_,PySem.W.mg_of X G y_MOST_ROWS⟩,⟨_,PySem.W.mg_of X G y_MOST_COLUMNS⟩⟩
 have oa:=(DF.at X G d_is_whole).elim fun _ t=>uQ (P:=P) (w:=w) B t
 have lV:=(DF.at X G d_is_letter).elim fun _ t=>sm (P:=P) (w:=w) B t
 have n_:=(DF.at X G d_cells_of_row).elim fun _ t=>mE (P:=P) (w:=w) B t
 have uI:=(DF.at X G d_letter_of).elim fun _ t=>su (P:=P) (w:=w) B t
 have wo:=(DF.at X G d_are_next).elim fun _ t=>uN (P:=P) (w:=w) B t
 have DW:=(DF.at X G d_keyed).elim fun _ t=>Bz (P:=P) (w:=w) B t
 have g7:=(DF.at X G d_part_between).elim fun _ t=>mF (P:=P) (w:=w) B t
 have jX:=(DF.at X G d_with_names).elim fun _ t=>pM (P:=P) (w:=w) B t
 have wu:=(DF.at X G d_law_cell).elim fun _ t=>uR (P:=P) (w:=w) B t
 have Bx:=(DF.at X G d_is_row).elim fun _ t=>zw (P:=P) (w:=w) B lV t
 have zq:=(DF.at X G d_is_cell).elim fun _ t=>wB (P:=P) (w:=w) B oa t
 have pG:=(DF.at X G d_need_letter).elim fun _ t=>oj (P:=P) (w:=w) B lV t
 have uK:=(DF.at X G d_need_ways).elim fun _ t=>sx (P:=P) (w:=w) B oa t
 have lU:=(DF.at X G d_all_cells).elim fun _ t=>sk (P:=P) (w:=w) B n_ t
 have si:=(DF.at X G d_next_cells).elim fun _ t=>pJ (P:=P) (w:=w) B wo t
 have zr:=(DF.at X G d_lies_at).elim fun _ t=>wC (P:=P) (w:=w) B g7 t
 have g6:=(DF.at X G d_law_drawn).elim fun _ t=>sr (P:=P) (w:=w) B wu t
 have wt:=(DF.at X G d_is_board).elim fun _ t=>uP (P:=P) (w:=w) B Bx t
 have uJ:=(DF.at X G d_need_cell).elim fun _ t=>sv (P:=P) (w:=w) B zq t
 have sf:=(DF.at X G d_like_cells).elim fun _ t=>pH (P:=P) (w:=w) B uI si t
 have uH:=(DF.at X G d_law_board).elim fun _ t=>sq (P:=P) (w:=w) B g6 t
 have pF:=(DF.at X G d_law_cell_in).elim fun _ t=>og (P:=P) (w:=w) B g6 t
 have cJ:=(DF.at X G d_need_board).elim fun _ t=>pI (P:=P) (w:=w) B wt t
 have sj:=(DF.at X G d_steps_back).elim fun _ t=>pL (P:=P) (w:=w) B sf t
 have wx:=(DF.at X G d_mirrored).elim fun _ t=>uS (P:=P) (w:=w) B cJ t
 have zp:=(DF.at X G d_cut_out).elim fun _ t=>wA (P:=P) (w:=w) B cJ uJ g7 t
 have wq:=(DF.at X G d_found_in).elim fun _ t=>uO (P:=P) (w:=w) B cJ lU zr t
 have jW:=(DF.at X G d_relettered).elim fun _ t=>pK (P:=P) (w:=w) B cJ jX t
 have zu:=(DF.at X G d_swapped).elim fun _ t=>wF (P:=P) (w:=w) B cJ pG jX t
 have pE:=(DF.at X G d_all_patches).elim fun _ t=>oe (P:=P) (w:=w) B lU sj DW t
 have wm:=(DF.at X G d_are_like).elim fun _ t=>uM (P:=P) (w:=w) B jW t
 have zt:=(DF.at X G d_patches).elim fun _ t=>wD (P:=P) (w:=w) B cJ uK pE t
 exact uL B uH pF zp wq jW g6 zu wm wx zt (AJ (st:=ag) l_law_k77 c_law_k77 k_law_k77)
end K1
open PySem PySem.W PyProof.Rows
set_option maxHeartbeats 0 in
theorem PySem.Challenge.cw_cellpatches_k77_whole_parts_holds : PySem.Challenge.rw_cellpatches_k77_whole_parts.Holds := by
 w_on;o_law
 refine holds_open (q:=K1.vv) (loose:=[]) (Xt:=fun s=>xlAt K1.vv [] s&&recOk (RowW.records (OpenRow.toRowW _)) s) (XP:=XL K1.vv []) (Yf:=Hook.obs (kHook K1.nA K1.nz (fun _=>by kernel_rfl))) (Ya:=Hook.val (kHook K1.nA K1.nz (fun _=>by kernel_rfl))) (YP:=Hook.says (kHook K1.nA K1.nz (fun _=>by kernel_rfl))) (N:=4296) ?hl (Hook.of (kHook K1.nA K1.nz (fun _=>by kernel_rfl))) (Hook.keeps (kHook K1.nA K1.nz (fun _=>by kernel_rfl))) (fun s e=>xl_of s (Bool.and_eq_true_iff.mp e).1) XL.keeps (by rfl) (by rfl) (by rfl) (fun s e=>recFacts_of (Bool.and_eq_true_iff.mp e).2) (by rfl) (by first | assumption | decide+kernel) (by decide+kernel) ⟨rfl,rfl,rfl,rfl,rfl,by decide+kernel⟩ ?hw ?hc
 case hl=>exact K1.IM
 (case hw=>w_witness2)
 k_fill
 refine L3.J0 (l:=PySem.Challenge.rw_cellpatches_k77_whole_parts) (k:=7) (n:=63) (x:="_law_script") (g:=K1.iB) rfl (by decide) rfl ⟨rfl,by decide,by decide⟩ (fun w h Y=>PySem.W.kIn_of Y) K1.Bc ?F
 case F=>
  intro w mg fa h KX G F8
  refine' K1.all_mk KX G F8 ?d_is_whole ?d_is_letter ?d_cells_of_row ?d_letter_of ?d_are_next ?d_keyed ?d_part_between ?d_with_names ?d_law_cell ?d_is_row ?d_is_cell ?d_need_letter ?d_need_ways ?d_all_cells ?d_next_cells ?d_lies_at ?d_law_drawn ?d_is_board ?d_need_cell ?d_like_cells ?d_law_board ?d_law_cell_in ?d_need_board ?d_steps_back ?d_mirrored ?d_cut_out ?d_found_in ?d_relettered ?d_swapped ?d_all_patches ?d_are_like ?d_patches ?a_law_k77 ?l_law_k77 ?c_law_k77 ?k_law_k77 ?z_len ?z_isinstance ?z_all ?z_abs ?z_max ?z_min ?z_range ?z_str ?z_int ?z_bool ?z_tuple ?z_set ?z_sorted ?y_LETTERS ?y_MOST_ROWS ?y_MOST_COLUMNS
  (case d_is_whole=>(refine' K1.DF.mk ?a ?l ?c ?k;(case a=>k_is);(case l=>k_is);(case c=>k_is);(case k=>k_is)))
  (case d_is_letter=>(refine' K1.DF.mk ?a ?l ?c ?k;(case a=>k_is);(case l=>k_is);(case c=>k_is);(case k=>k_is)))
  (case d_cells_of_row=>(refine' K1.DF.mk ?a ?l ?c ?k;(case a=>k_is);(case l=>k_is);(case c=>k_is);(case k=>k_is)))
  (case d_letter_of=>(refine' K1.DF.mk ?a ?l ?c ?k;(case a=>k_is);(case l=>k_is);(case c=>k_is);(case k=>k_is)))
  (case d_are_next=>(refine' K1.DF.mk ?a ?l ?c ?k;(case a=>k_is);(case l=>k_is);(case c=>k_is);(case k=>k_is)))
  (case d_keyed=>(refine' K1.DF.mk ?a ?l ?c ?k;(case a=>k_is);(case l=>k_is);(case c=>k_is);(case k=>k_is)))
  (case d_part_between=>(refine' K1.DF.mk ?a ?l ?c ?k;(case a=>k_is);(case l=>k_is);(case c=>k_is);(case k=>k_is)))
  (case d_with_names=>(refine' K1.DF.mk ?a ?l ?c ?k;(case a=>k_is);(case l=>k_is);(case c=>k_is);(case k=>k_is)))
  (case d_law_cell=>(refine' K1.DF.mk ?a ?l ?c ?k;(case a=>k_is);(case l=>k_is);(case c=>k_is);(case k=>k_is)))
  (case d_is_row=>(refine' K1.DF.mk ?a ?l ?c ?k;(case a=>k_is);(case l=>k_is);(case c=>k_is);(case k=>k_is)))
  (case d_is_cell=>(refine' K1.DF.mk ?a ?l ?c ?k;(case a=>k_is);(case l=>k_is);(case c=>k_is);(case k=>k_is)))
  (case d_need_letter=>(refine' K1.DF.mk ?a ?l ?c ?k;(case a=>k_is);(case l=>k_is);(case c=>k_is);(case k=>k_is)))
  (case d_need_ways=>(refine' K1.DF.mk ?a ?l ?c ?k;(case a=>k_is);(case l=>k_is);(case c=>k_is);(case k=>k_is)))
  (case d_all_cells=>(refine' K1.DF.mk ?a ?l ?c ?k;(case a=>k_is);(case l=>k_is);(case c=>k_is);(case k=>k_is)))
  (case d_next_cells=>(refine' K1.DF.mk ?a ?l ?c ?k;(case a=>k_is);(case l=>k_is);(case c=>k_is);(case k=>k_is)))
  (case d_lies_at=>(refine' K1.DF.mk ?a ?l ?c ?k;(case a=>k_is);(case l=>k_is);(case c=>k_is);(case k=>k_is)))
  (case d_law_drawn=>(refine' K1.DF.mk ?a ?l ?c ?k;(case a=>k_is);(case l=>k_is);(case c=>k_is);(case k=>k_is)))
  (case d_is_board=>(refine' K1.DF.mk ?a ?l ?c ?k;(case a=>k_is);(case l=>k_is);(case c=>k_is);(case k=>k_is)))
  (case d_need_cell=>(refine' K1.DF.mk ?a ?l ?c ?k;(case a=>k_is);(case l=>k_is);(case c=>k_is);(case k=>k_is)))
  (case d_like_cells=>(refine' K1.DF.mk ?a ?l ?c ?k;(case a=>k_is);(case l=>k_is);(case c=>k_is);(case k=>k_is)))
  (case d_law_board=>(refine' K1.DF.mk ?a ?l ?c ?k;(case a=>k_is);(case l=>k_is);(case c=>k_is);(case k=>k_is)))
  (case d_law_cell_in=>(refine' K1.DF.mk ?a ?l ?c ?k;(case a=>k_is);(case l=>k_is);(case c=>k_is);(case k=>k_is)))
  (case d_need_board=>(refine' K1.DF.mk ?a ?l ?c ?k;(case a=>k_is);(case l=>k_is);(case c=>k_is);(case k=>k_is)))
  (case d_steps_back=>(refine' K1.DF.mk ?a ?l ?c ?k;(case a=>k_is);(case l=>k_is);(case c=>k_is);(case k=>k_is)))
  (case d_mirrored=>(refine' K1.DF.mk ?a ?l ?c ?k;(case a=>k_is);(case l=>k_is);(case c=>k_is);(case k=>k_is)))
  (case d_cut_out=>(refine' K1.DF.mk ?a ?l ?c ?k;(case a=>k_is);(case l=>k_is);(case c=>k_is);(case k=>k_is)))
  (case d_found_in=>(refine' K1.DF.mk ?a ?l ?c ?k;(case a=>k_is);(case l=>k_is);(case c=>k_is);(case k=>k_is)))
  (case d_relettered=>(refine' K1.DF.mk ?a ?l ?c ?k;(case a=>k_is);(case l=>k_is);(case c=>k_is);(case k=>k_is)))
  (case d_swapped=>(refine' K1.DF.mk ?a ?l ?c ?k;(case a=>k_is);(case l=>k_is);(case c=>k_is);(case k=>k_is)))
  (case d_all_patches=>(refine' K1.DF.mk ?a ?l ?c ?k;(case a=>k_is);(case l=>k_is);(case c=>k_is);(case k=>k_is)))
  (case d_are_like=>(refine' K1.DF.mk ?a ?l ?c ?k;(case a=>k_is);(case l=>k_is);(case c=>k_is);(case k=>k_is)))
  (case d_patches=>(refine' K1.DF.mk ?a ?l ?c ?k;(case a=>k_is);(case l=>k_is);(case c=>k_is);(case k=>k_is)))
  (case a_law_k77=>k_is)
  (case l_law_k77=>k_is)
  (case c_law_k77=>k_is)
  (case k_law_k77=>k_is)
  (case z_len=>k_is)
  (case z_isinstance=>k_is)
  (case z_all=>k_is)
  (case z_abs=>k_is)
  (case z_max=>k_is)
  (case z_min=>k_is)
  (case z_range=>k_is)
  (case z_str=>k_is)
  (case z_int=>k_is)
  (case z_bool=>k_is)
  (case z_tuple=>k_is)
  (case z_set=>k_is)
  (case z_sorted=>k_is)
  (case y_LETTERS=>k_is)
  (case y_MOST_ROWS=>k_is)
  (case y_MOST_COLUMNS=>k_is)
