import PyProof.Rows.All
import Wide.All
import OpenK.AllK
import Wide.FinOn
import Lean
import PyProof.EqAt
import PyProof.EqKinds
import PyProof.TupleCall
import KE.KTryMore
import KE.KRevIter
import KE.KSortTup
import KE.KDictSum
import KE.KRevSl
import PyProof.Rows.TupDisplay
import PyProof.EnumFor
import PyProof.EnumMake
import PyProof.EnumStmt
import PyProof.DictUpdate
import PyProof.AttrMissSeq
import KE.KDictOf
import PyProof.ListStr
import PyProof.SetScanFacts
import PyProof.Rows.SetFrom
import PyProof.TupleKey
import KE.LcSums
import PyProof.ListRange
import PyProof.SeqI3
import KE.KItemsList
import PyProof.ZipIter
import PyProof.Draws
import PyProof.DictItems
import PySem.Challenge.RW_cellpatches_k52_whole_melts
set_option Elab.async false
set_option linter.all false
set_option maxRecDepth 100000
namespace L2
open PySem
def ei(s:Stmt):Arguments:=match s with
 | .FunctionDef _ a _ _ _ _ _ _ _ _=>a
 |_=>{posonlyargs:=[],args:=[],vararg:=none,kwonlyargs:=[],kw_defaults:=[],kwarg:=none,defaults:=[]}
def aW(s:Stmt):List Stmt:=match s with
 | .FunctionDef _ _ b _ _ _ _ _ _ _=>b
 |_=>[]
def af(s:Stmt):Scope:=match s with
 | .FunctionDef _ _ _ _ _ _ sc _ _ _=>sc
 |_=>{kind:= .function,names:=[],isGenerator:=false,isCoroutine:=false}
end L2
namespace K1
open PySem PySem.Spec
def top(i:Nat):Stmt:=PySem.Challenge.pw_cellpatches_k52_whole_melts.main.body.getD i (.Pass ⟨0,0,0,0⟩)
abbrev hS(s:String)(t:Tok):Value:= .str (Str.ofString s) t
abbrev hE(P:Params)(s:String)(t:Tok)(v:Value):DictEntry:={hash:=PyData.keyHash P (Str.ofString s),key:=hS s t,val:=v}
abbrev hT(xs:Array Value):Obj:={cls:= .type "tuple",data:=Data.seq xs}
abbrev hF(s:String)(t:Stmt)(m:Value)(c:Addr):Obj:={cls:= .type "function",data:=Data.func {name:=Str.ofString s,qualname:=Str.ofString s,params:=L2.ei t,body:=FuncBody.stmts (L2.aW t),scope:=L2.af t,globals:=3,closure:=[],defaults:= .none,kwdefaults:= .none,pyModule:=m,code:= .ref c} }
def nu:Params→W.Frag:=fun P=>(nat_lit 2,{cls:= .none,data:=Data.dict #[]})::
 (nat_lit 3,{cls:= .type "dict",data:=Data.dict #[hE P "__name__" 165 (hS "law_cellpatches_k52_whole_melts" 557),hE P "__doc__" 166 .none,hE P "__package__" 167 .none,hE P "__loader__" 168 (.builtin "__main__.__loader__#opaque"),hE P "__spec__" 169 .none,hE P "__annotations__" 170 (.ref 6),hE P "__builtins__" 171 (.ref 4),hE P "__file__" 173 (hS "/claim/cut.py" 172),hE P "__cached__" 174 .none,hE P "PatchError" 206 (.ref 24),hE P "NoBoard" 222 (.ref 37),hE P "NoWays" 238 (.ref 49),hE P "NoCell" 254 (.ref 61),hE P "NoNumber" 270 (.ref 73),hE P "LETTERS" 274 (hS "abcdef" 273),hE P "MOST_ROWS" 276 (.int 8 275),hE P "MOST_COLUMNS" 278 (.int 8 277),hE P "is_whole" 285 (.ref 82),hE P "is_letter" 292 (.ref 89),hE P "is_row" 298 (.ref 94),hE P "is_board" 304 (.ref 99),hE P "is_cell" 312 (.ref 106),hE P "need_board" 319 (.ref 113),hE P "need_cell" 327 (.ref 120),hE P "need_ways" 334 (.ref 127),hE P "cells_of_row" 340 (.ref 132),hE P "all_cells" 349 (.ref 139),hE P "letter_of" 357 (.ref 146),hE P "are_next" 368 (.ref 153),hE P "next_cells" 380 (.ref 160),hE P "keyed" 389 (.ref 167),hE P "with_letters" 395 (.ref 172),hE P "cells" 402 (.ref 179),hE P "letter_at" 410 (.ref 186),hE P "like_cells" 418 (.ref 191),hE P "steps_back" 432 (.ref 198),hE P "all_patches" 444 (.ref 205),hE P "numbers_of" 455 (.ref 212),hE P "patches" 463 (.ref 219),hE P "how_many" 471 (.ref 226),hE P "shared_sides" 486 (.ref 233),hE P "GREATEST_LEAST" 490 (.int 64 489),hE P "need_melting" 499 (.ref 240),hE P "melts_into" 512 (.ref 247),hE P "after_one" 518 (.ref 252),hE P "all_steps" 529 (.ref 259),hE P "melted_once" 538 (.ref 266),hE P "melted" 547 (.ref 273),hE P "steps_of" 556 (.ref 280),hE P "_law_cell" 566 (.ref 287),hE P "_law_drawn" 576 (.ref 294),hE P "_law_board" 582 (.ref 299),hE P "law" 588 (.ref 304)] 53})::
 (nat_lit 15,hT #[.type "ValueError"])::
 (nat_lit 22,hT #[])::
 (nat_lit 23,{cls:= .type "dict",data:=Data.dict #[hE P "__module__" 196 (hS "cellpatches.errors" 187),hE P "__firstlineno__" 200 (.int 2 199),hE P "__static_attributes__" 201 (.ref 22),hE P "__weakref__" 203 (.ref 25),hE P "__doc__" 204 .none] 3})::
 (nat_lit 24,{cls:= .type "type",data:=Data.cls {name:=Str.ofString "PatchError",bases:=[.type "ValueError"],mro:=[.ref 24, .type "ValueError", .type "Exception", .type "BaseException", .type "object"],ns:=23,qualname:=Str.ofString "PatchError",subclasses:=[.ref 37, .ref 49, .ref 61, .ref 73]},slots:= #[some (.ref 15),none,some (hS "PatchError" 189),some (hS "PatchError" 197),some (.builtin "ValueError.__new__"),some (.bool true)]})::
 (nat_lit 25,{cls:= .type "getset_descriptor",data:=Data.fields #[hS "__weakref__" 202, .ref 24, .builtin "ExceptionGroup.__weakref__", .none]})::
 (nat_lit 28,hT #[.ref 24])::
 (nat_lit 35,hT #[])::
 (nat_lit 36,{cls:= .type "dict",data:=Data.dict #[hE P "__module__" 214 (hS "cellpatches.errors" 187),hE P "__firstlineno__" 218 (.int 4 217),hE P "__static_attributes__" 219 (.ref 35),hE P "__doc__" 220 .none] 2})::
 (nat_lit 37,{cls:= .type "type",data:=Data.cls {name:=Str.ofString "NoBoard",bases:=[.ref 24],mro:=[.ref 37, .ref 24, .type "ValueError", .type "Exception", .type "BaseException", .type "object"],ns:=36,qualname:=Str.ofString "NoBoard"},slots:= #[some (.ref 28),none,some (hS "NoBoard" 207),some (hS "NoBoard" 215),some (.builtin "ValueError.__new__"),some (.bool true)]})::
 (nat_lit 40,hT #[.ref 24])::
 (nat_lit 47,hT #[])::
 (nat_lit 48,{cls:= .type "dict",data:=Data.dict #[hE P "__module__" 230 (hS "cellpatches.errors" 187),hE P "__firstlineno__" 234 (.int 6 233),hE P "__static_attributes__" 235 (.ref 47),hE P "__doc__" 236 .none] 2})::
 (nat_lit 49,{cls:= .type "type",data:=Data.cls {name:=Str.ofString "NoWays",bases:=[.ref 24],mro:=[.ref 49, .ref 24, .type "ValueError", .type "Exception", .type "BaseException", .type "object"],ns:=48,qualname:=Str.ofString "NoWays"},slots:= #[some (.ref 40),none,some (hS "NoWays" 223),some (hS "NoWays" 231),some (.builtin "ValueError.__new__"),some (.bool true)]})::
 (nat_lit 52,hT #[.ref 24])::
 (nat_lit 59,hT #[])::
 (nat_lit 60,{cls:= .type "dict",data:=Data.dict #[hE P "__module__" 246 (hS "cellpatches.errors" 187),hE P "__firstlineno__" 250 (.int 8 249),hE P "__static_attributes__" 251 (.ref 59),hE P "__doc__" 252 .none] 2})::
 (nat_lit 61,{cls:= .type "type",data:=Data.cls {name:=Str.ofString "NoCell",bases:=[.ref 24],mro:=[.ref 61, .ref 24, .type "ValueError", .type "Exception", .type "BaseException", .type "object"],ns:=60,qualname:=Str.ofString "NoCell"},slots:= #[some (.ref 52),none,some (hS "NoCell" 239),some (hS "NoCell" 247),some (.builtin "ValueError.__new__"),some (.bool true)]})::
 (nat_lit 64,hT #[.ref 24])::
 (nat_lit 71,hT #[])::
 (nat_lit 72,{cls:= .type "dict",data:=Data.dict #[hE P "__module__" 262 (hS "cellpatches.errors" 187),hE P "__firstlineno__" 266 (.int 10 265),hE P "__static_attributes__" 267 (.ref 71),hE P "__doc__" 268 .none] 2})::
 (nat_lit 73,{cls:= .type "type",data:=Data.cls {name:=Str.ofString "NoNumber",bases:=[.ref 24],mro:=[.ref 73, .ref 24, .type "ValueError", .type "Exception", .type "BaseException", .type "object"],ns:=72,qualname:=Str.ofString "NoNumber"},slots:= #[some (.ref 64),none,some (hS "NoNumber" 255),some (hS "NoNumber" 263),some (.builtin "ValueError.__new__"),some (.bool true)]})::
 (nat_lit 76,hT #[])::
 (nat_lit 78,hT #[hS "thing" 282])::
 (nat_lit 79,hT #[])::
 (nat_lit 81,{cls:= .type "code",data:=Data.fields #[hS "is_whole" 279,hS "is_whole" 280,hS "/claim/cut.py" 281, .int 16 0, .int 1 0, .int 0 0, .int 0 0, .int 3 0, .ref 76, .bool true, .int 181 0, .ref 77, .none, .ref 78, .ref 79, .ref 80, .int 283 0, .int 16 0,hS "/claim/cut.py" 284]})::
 (nat_lit 82,hF "is_whole" (top 10) (hS "cellpatches.boards" 271) 81)::
 (nat_lit 83,hT #[])::
 (nat_lit 85,hT #[hS "thing" 289])::
 (nat_lit 86,hT #[])::
 (nat_lit 88,{cls:= .type "code",data:=Data.fields #[hS "is_letter" 286,hS "is_letter" 287,hS "/claim/cut.py" 288, .int 18 0, .int 1 0, .int 0 0, .int 0 0, .int 3 0, .ref 83, .bool true, .int 181 0, .ref 84, .none, .ref 85, .ref 86, .ref 87, .int 290 0, .int 18 0,hS "/claim/cut.py" 291]})::
 (nat_lit 89,hF "is_letter" (top 11) (hS "cellpatches.boards" 271) 88)::
 (nat_lit 90,hT #[])::
 (nat_lit 93,{cls:= .type "code",data:=Data.fields #[hS "is_row" 293,hS "is_row" 294,hS "/claim/cut.py" 295, .int 20 0, .int 1 0, .int 0 0, .int 0 0, .int 3 0, .ref 90, .bool true, .int 181 0, .ref 91, .none, .none, .none, .ref 92, .int 296 0, .int 20 0,hS "/claim/cut.py" 297]})::
 (nat_lit 94,hF "is_row" (top 12) (hS "cellpatches.boards" 271) 93)::
 (nat_lit 95,hT #[])::
 (nat_lit 98,{cls:= .type "code",data:=Data.fields #[hS "is_board" 299,hS "is_board" 300,hS "/claim/cut.py" 301, .int 24 0, .int 1 0, .int 0 0, .int 0 0, .int 3 0, .ref 95, .bool true, .int 181 0, .ref 96, .none, .none, .none, .ref 97, .int 302 0, .int 24 0,hS "/claim/cut.py" 303]})::
 (nat_lit 99,hF "is_board" (top 13) (hS "cellpatches.boards" 271) 98)::
 (nat_lit 100,hT #[])::
 (nat_lit 102,hT #[hS "board" 308,hS "thing" 309])::
 (nat_lit 103,hT #[])::
 (nat_lit 105,{cls:= .type "code",data:=Data.fields #[hS "is_cell" 305,hS "is_cell" 306,hS "/claim/cut.py" 307, .int 30 0, .int 2 0, .int 0 0, .int 0 0, .int 3 0, .ref 100, .bool true, .int 181 0, .ref 101, .none, .ref 102, .ref 103, .ref 104, .int 310 0, .int 30 0,hS "/claim/cut.py" 311]})::
 (nat_lit 106,hF "is_cell" (top 14) (hS "cellpatches.boards" 271) 105)::
 (nat_lit 107,hT #[])::
 (nat_lit 109,hT #[hS "thing" 316])::
 (nat_lit 110,hT #[])::
 (nat_lit 112,{cls:= .type "code",data:=Data.fields #[hS "need_board" 313,hS "need_board" 314,hS "/claim/cut.py" 315, .int 36 0, .int 1 0, .int 0 0, .int 0 0, .int 3 0, .ref 107, .bool true, .int 181 0, .ref 108, .none, .ref 109, .ref 110, .ref 111, .int 317 0, .int 36 0,hS "/claim/cut.py" 318]})::
 (nat_lit 113,hF "need_board" (top 15) (hS "cellpatches.boards" 271) 112)::
 (nat_lit 114,hT #[])::
 (nat_lit 116,hT #[hS "board" 323,hS "thing" 324])::
 (nat_lit 117,hT #[])::
 (nat_lit 119,{cls:= .type "code",data:=Data.fields #[hS "need_cell" 320,hS "need_cell" 321,hS "/claim/cut.py" 322, .int 39 0, .int 2 0, .int 0 0, .int 0 0, .int 3 0, .ref 114, .bool true, .int 181 0, .ref 115, .none, .ref 116, .ref 117, .ref 118, .int 325 0, .int 39 0,hS "/claim/cut.py" 326]})::
 (nat_lit 120,hF "need_cell" (top 16) (hS "cellpatches.boards" 271) 119)::
 (nat_lit 121,hT #[])::
 (nat_lit 123,hT #[hS "thing" 331])::
 (nat_lit 124,hT #[])::
 (nat_lit 126,{cls:= .type "code",data:=Data.fields #[hS "need_ways" 328,hS "need_ways" 329,hS "/claim/cut.py" 330, .int 42 0, .int 1 0, .int 0 0, .int 0 0, .int 3 0, .ref 121, .bool true, .int 181 0, .ref 122, .none, .ref 123, .ref 124, .ref 125, .int 332 0, .int 42 0,hS "/claim/cut.py" 333]})::
 (nat_lit 127,hF "need_ways" (top 17) (hS "cellpatches.boards" 271) 126)::
 (nat_lit 128,hT #[])::
 (nat_lit 131,{cls:= .type "code",data:=Data.fields #[hS "cells_of_row" 335,hS "cells_of_row" 336,hS "/claim/cut.py" 337, .int 45 0, .int 2 0, .int 0 0, .int 0 0, .int 3 0, .ref 128, .bool true, .int 181 0, .ref 129, .none, .none, .none, .ref 130, .int 338 0, .int 45 0,hS "/claim/cut.py" 339]})::
 (nat_lit 132,hF "cells_of_row" (top 18) (hS "cellpatches.boards" 271) 131)::
 (nat_lit 133,hT #[])::
 (nat_lit 135,hT #[hS "board" 344,hS "found" 345,hS "row" 346])::
 (nat_lit 136,hT #[])::
 (nat_lit 138,{cls:= .type "code",data:=Data.fields #[hS "all_cells" 341,hS "all_cells" 342,hS "/claim/cut.py" 343, .int 47 0, .int 1 0, .int 0 0, .int 0 0, .int 3 0, .ref 133, .bool true, .int 181 0, .ref 134, .none, .ref 135, .ref 136, .ref 137, .int 347 0, .int 47 0,hS "/claim/cut.py" 348]})::
 (nat_lit 139,hF "all_cells" (top 19) (hS "cellpatches.boards" 271) 138)::
 (nat_lit 140,hT #[])::
 (nat_lit 142,hT #[hS "board" 353,hS "cell" 354])::
 (nat_lit 143,hT #[])::
 (nat_lit 145,{cls:= .type "code",data:=Data.fields #[hS "letter_of" 350,hS "letter_of" 351,hS "/claim/cut.py" 352, .int 52 0, .int 2 0, .int 0 0, .int 0 0, .int 3 0, .ref 140, .bool true, .int 181 0, .ref 141, .none, .ref 142, .ref 143, .ref 144, .int 355 0, .int 52 0,hS "/claim/cut.py" 356]})::
 (nat_lit 146,hF "letter_of" (top 20) (hS "cellpatches.boards" 271) 145)::
 (nat_lit 147,hT #[])::
 (nat_lit 149,hT #[hS "one" 361,hS "other" 362,hS "ways" 363,hS "down" 364,hS "along" 365])::
 (nat_lit 150,hT #[])::
 (nat_lit 152,{cls:= .type "code",data:=Data.fields #[hS "are_next" 358,hS "are_next" 359,hS "/claim/cut.py" 360, .int 54 0, .int 3 0, .int 0 0, .int 0 0, .int 3 0, .ref 147, .bool true, .int 181 0, .ref 148, .none, .ref 149, .ref 150, .ref 151, .int 366 0, .int 54 0,hS "/claim/cut.py" 367]})::
 (nat_lit 153,hF "are_next" (top 21) (hS "cellpatches.boards" 271) 152)::
 (nat_lit 154,hT #[])::
 (nat_lit 156,hT #[hS "board" 372,hS "cell" 373,hS "ways" 374,hS "found" 375,hS "row" 376,hS "column" 377])::
 (nat_lit 157,hT #[])::
 (nat_lit 159,{cls:= .type "code",data:=Data.fields #[hS "next_cells" 369,hS "next_cells" 370,hS "/claim/cut.py" 371, .int 60 0, .int 3 0, .int 0 0, .int 0 0, .int 3 0, .ref 154, .bool true, .int 181 0, .ref 155, .none, .ref 156, .ref 157, .ref 158, .int 378 0, .int 60 0,hS "/claim/cut.py" 379]})::
 (nat_lit 160,hF "next_cells" (top 22) (hS "cellpatches.boards" 271) 159)::
 (nat_lit 161,hT #[])::
 (nat_lit 163,hT #[hS "things" 384,hS "found" 385,hS "thing" 386])::
 (nat_lit 164,hT #[])::
 (nat_lit 166,{cls:= .type "code",data:=Data.fields #[hS "keyed" 381,hS "keyed" 382,hS "/claim/cut.py" 383, .int 67 0, .int 1 0, .int 0 0, .int 0 0, .int 3 0, .ref 161, .bool true, .int 181 0, .ref 162, .none, .ref 163, .ref 164, .ref 165, .int 387 0, .int 67 0,hS "/claim/cut.py" 388]})::
 (nat_lit 167,hF "keyed" (top 23) (hS "cellpatches.boards" 271) 166)::
 (nat_lit 168,hT #[])::
 (nat_lit 171,{cls:= .type "code",data:=Data.fields #[hS "with_letters" 390,hS "with_letters" 391,hS "/claim/cut.py" 392, .int 72 0, .int 3 0, .int 0 0, .int 0 0, .int 3 0, .ref 168, .bool true, .int 181 0, .ref 169, .none, .none, .none, .ref 170, .int 393 0, .int 72 0,hS "/claim/cut.py" 394]})::
 (nat_lit 172,hF "with_letters" (top 24) (hS "cellpatches.boards" 271) 171)::
 (nat_lit 173,hT #[])::
 (nat_lit 175,hT #[hS "board" 399])::
 (nat_lit 176,hT #[])::
 (nat_lit 178,{cls:= .type "code",data:=Data.fields #[hS "cells" 396,hS "cells" 397,hS "/claim/cut.py" 398, .int 79 0, .int 1 0, .int 0 0, .int 0 0, .int 3 0, .ref 173, .bool true, .int 181 0, .ref 174, .none, .ref 175, .ref 176, .ref 177, .int 400 0, .int 79 0,hS "/claim/cut.py" 401]})::
 (nat_lit 179,hF "cells" (top 25) (hS "cellpatches.boards" 271) 178)::
 (nat_lit 180,hT #[])::
 (nat_lit 182,hT #[hS "board" 406,hS "cell" 407])::
 (nat_lit 183,hT #[])::
 (nat_lit 185,{cls:= .type "code",data:=Data.fields #[hS "letter_at" 403,hS "letter_at" 404,hS "/claim/cut.py" 405, .int 82 0, .int 2 0, .int 0 0, .int 0 0, .int 3 0, .ref 180, .bool true, .int 181 0, .ref 181, .none, .ref 182, .ref 183, .ref 184, .int 408 0, .int 82 0,hS "/claim/cut.py" 409]})::
 (nat_lit 186,hF "letter_at" (top 26) (hS "cellpatches.boards" 271) 185)::
 (nat_lit 187,hT #[])::
 (nat_lit 190,{cls:= .type "code",data:=Data.fields #[hS "like_cells" 413,hS "like_cells" 414,hS "/claim/cut.py" 415, .int 87 0, .int 3 0, .int 0 0, .int 0 0, .int 3 0, .ref 187, .bool true, .int 181 0, .ref 188, .none, .none, .none, .ref 189, .int 416 0, .int 87 0,hS "/claim/cut.py" 417]})::
 (nat_lit 191,hF "like_cells" (top 28) (hS "cellpatches.patches" 411) 190)::
 (nat_lit 192,hT #[])::
 (nat_lit 194,hT #[hS "board" 422,hS "start" 423,hS "ways" 424,hS "back" 425,hS "ring" 426,hS "further" 427,hS "cell" 428,hS "near" 429])::
 (nat_lit 195,hT #[])::
 (nat_lit 197,{cls:= .type "code",data:=Data.fields #[hS "steps_back" 419,hS "steps_back" 420,hS "/claim/cut.py" 421, .int 90 0, .int 3 0, .int 0 0, .int 0 0, .int 3 0, .ref 192, .bool true, .int 181 0, .ref 193, .none, .ref 194, .ref 195, .ref 196, .int 430 0, .int 90 0,hS "/claim/cut.py" 431]})::
 (nat_lit 198,hF "steps_back" (top 29) (hS "cellpatches.patches" 411) 197)::
 (nat_lit 199,hT #[])::
 (nat_lit 201,hT #[hS "board" 436,hS "ways" 437,hS "found" 438,hS "seen" 439,hS "cell" 440,hS "patch" 441])::
 (nat_lit 202,hT #[])::
 (nat_lit 204,{cls:= .type "code",data:=Data.fields #[hS "all_patches" 433,hS "all_patches" 434,hS "/claim/cut.py" 435, .int 102 0, .int 2 0, .int 0 0, .int 0 0, .int 3 0, .ref 199, .bool true, .int 181 0, .ref 200, .none, .ref 201, .ref 202, .ref 203, .int 442 0, .int 102 0,hS "/claim/cut.py" 443]})::
 (nat_lit 205,hF "all_patches" (top 30) (hS "cellpatches.patches" 411) 204)::
 (nat_lit 206,hT #[])::
 (nat_lit 208,hT #[hS "found" 448,hS "numbers" 449,hS "number" 450,hS "patch" 451,hS "cell" 452])::
 (nat_lit 209,hT #[])::
 (nat_lit 211,{cls:= .type "code",data:=Data.fields #[hS "numbers_of" 445,hS "numbers_of" 446,hS "/claim/cut.py" 447, .int 111 0, .int 1 0, .int 0 0, .int 0 0, .int 3 0, .ref 206, .bool true, .int 181 0, .ref 207, .none, .ref 208, .ref 209, .ref 210, .int 453 0, .int 111 0,hS "/claim/cut.py" 454]})::
 (nat_lit 212,hF "numbers_of" (top 31) (hS "cellpatches.patches" 411) 211)::
 (nat_lit 213,hT #[])::
 (nat_lit 215,hT #[hS "board" 459,hS "ways" 460])::
 (nat_lit 216,hT #[])::
 (nat_lit 218,{cls:= .type "code",data:=Data.fields #[hS "patches" 456,hS "patches" 457,hS "/claim/cut.py" 458, .int 117 0, .int 2 0, .int 0 0, .int 0 0, .int 3 0, .ref 213, .bool true, .int 181 0, .ref 214, .none, .ref 215, .ref 216, .ref 217, .int 461 0, .int 117 0,hS "/claim/cut.py" 462]})::
 (nat_lit 219,hF "patches" (top 32) (hS "cellpatches.patches" 411) 218)::
 (nat_lit 220,hT #[])::
 (nat_lit 222,hT #[hS "board" 467,hS "ways" 468])::
 (nat_lit 223,hT #[])::
 (nat_lit 225,{cls:= .type "code",data:=Data.fields #[hS "how_many" 464,hS "how_many" 465,hS "/claim/cut.py" 466, .int 121 0, .int 2 0, .int 0 0, .int 0 0, .int 3 0, .ref 220, .bool true, .int 181 0, .ref 221, .none, .ref 222, .ref 223, .ref 224, .int 469 0, .int 121 0,hS "/claim/cut.py" 470]})::
 (nat_lit 226,hF "how_many" (top 33) (hS "cellpatches.patches" 411) 225)::
 (nat_lit 227,hT #[])::
 (nat_lit 229,hT #[hS "board" 477,hS "found" 478,hS "numbers" 479,hS "shared" 480,hS "cell" 481,hS "near" 482,hS "pair" 483])::
 (nat_lit 230,hT #[])::
 (nat_lit 232,{cls:= .type "code",data:=Data.fields #[hS "shared_sides" 474,hS "shared_sides" 475,hS "/claim/cut.py" 476, .int 126 0, .int 2 0, .int 0 0, .int 0 0, .int 3 0, .ref 227, .bool true, .int 181 0, .ref 228, .none, .ref 229, .ref 230, .ref 231, .int 484 0, .int 126 0,hS "/claim/cut.py" 485]})::
 (nat_lit 233,hF "shared_sides" (top 35) (hS "cellpatches.measures" 472) 232)::
 (nat_lit 234,hT #[])::
 (nat_lit 236,hT #[hS "board" 494,hS "ways" 495,hS "least" 496])::
 (nat_lit 237,hT #[])::
 (nat_lit 239,{cls:= .type "code",data:=Data.fields #[hS "need_melting" 491,hS "need_melting" 492,hS "/claim/cut.py" 493, .int 137 0, .int 3 0, .int 0 0, .int 0 0, .int 3 0, .ref 234, .bool true, .int 181 0, .ref 235, .none, .ref 236, .ref 237, .ref 238, .int 497 0, .int 137 0,hS "/claim/cut.py" 498]})::
 (nat_lit 240,hF "need_melting" (top 38) (hS "cellpatches.melting" 487) 239)::
 (nat_lit 241,hT #[])::
 (nat_lit 243,hT #[hS "board" 503,hS "found" 504,hS "number" 505,hS "choices" 506,hS "pair" 507,hS "sides" 508,hS "other" 509])::
 (nat_lit 244,hT #[])::
 (nat_lit 246,{cls:= .type "code",data:=Data.fields #[hS "melts_into" 500,hS "melts_into" 501,hS "/claim/cut.py" 502, .int 142 0, .int 3 0, .int 0 0, .int 0 0, .int 3 0, .ref 241, .bool true, .int 181 0, .ref 242, .none, .ref 243, .ref 244, .ref 245, .int 510 0, .int 142 0,hS "/claim/cut.py" 511]})::
 (nat_lit 247,hF "melts_into" (top 39) (hS "cellpatches.melting" 487) 246)::
 (nat_lit 248,hT #[])::
 (nat_lit 251,{cls:= .type "code",data:=Data.fields #[hS "after_one" 513,hS "after_one" 514,hS "/claim/cut.py" 515, .int 149 0, .int 3 0, .int 0 0, .int 0 0, .int 3 0, .ref 248, .bool true, .int 181 0, .ref 249, .none, .none, .none, .ref 250, .int 516 0, .int 149 0,hS "/claim/cut.py" 517]})::
 (nat_lit 252,hF "after_one" (top 40) (hS "cellpatches.melting" 487) 251)::
 (nat_lit 253,hT #[])::
 (nat_lit 255,hT #[hS "board" 522,hS "ways" 523,hS "least" 524,hS "told" 525,hS "now" 526])::
 (nat_lit 256,hT #[])::
 (nat_lit 258,{cls:= .type "code",data:=Data.fields #[hS "all_steps" 519,hS "all_steps" 520,hS "/claim/cut.py" 521, .int 157 0, .int 3 0, .int 0 0, .int 0 0, .int 3 0, .ref 253, .bool true, .int 181 0, .ref 254, .none, .ref 255, .ref 256, .ref 257, .int 527 0, .int 157 0,hS "/claim/cut.py" 528]})::
 (nat_lit 259,hF "all_steps" (top 41) (hS "cellpatches.melting" 487) 258)::
 (nat_lit 260,hT #[])::
 (nat_lit 262,hT #[hS "board" 533,hS "ways" 534,hS "least" 535])::
 (nat_lit 263,hT #[])::
 (nat_lit 265,{cls:= .type "code",data:=Data.fields #[hS "melted_once" 530,hS "melted_once" 531,hS "/claim/cut.py" 532, .int 164 0, .int 3 0, .int 0 0, .int 0 0, .int 3 0, .ref 260, .bool true, .int 181 0, .ref 261, .none, .ref 262, .ref 263, .ref 264, .int 536 0, .int 164 0,hS "/claim/cut.py" 537]})::
 (nat_lit 266,hF "melted_once" (top 42) (hS "cellpatches.melting" 487) 265)::
 (nat_lit 267,hT #[])::
 (nat_lit 269,hT #[hS "board" 542,hS "ways" 543,hS "least" 544])::
 (nat_lit 270,hT #[])::
 (nat_lit 272,{cls:= .type "code",data:=Data.fields #[hS "melted" 539,hS "melted" 540,hS "/claim/cut.py" 541, .int 167 0, .int 3 0, .int 0 0, .int 0 0, .int 3 0, .ref 267, .bool true, .int 181 0, .ref 268, .none, .ref 269, .ref 270, .ref 271, .int 545 0, .int 167 0,hS "/claim/cut.py" 546]})::
 (nat_lit 273,hF "melted" (top 43) (hS "cellpatches.melting" 487) 272)::
 (nat_lit 274,hT #[])::
 (nat_lit 276,hT #[hS "board" 551,hS "ways" 552,hS "least" 553])::
 (nat_lit 277,hT #[])::
 (nat_lit 279,{cls:= .type "code",data:=Data.fields #[hS "steps_of" 548,hS "steps_of" 549,hS "/claim/cut.py" 550, .int 170 0, .int 3 0, .int 0 0, .int 0 0, .int 3 0, .ref 274, .bool true, .int 181 0, .ref 275, .none, .ref 276, .ref 277, .ref 278, .int 554 0, .int 170 0,hS "/claim/cut.py" 555]})::
 (nat_lit 280,hF "steps_of" (top 44) (hS "cellpatches.melting" 487) 279)::
 (nat_lit 281,hT #[])::
 (nat_lit 283,hT #[hS "_law_script" 562,hS "_law_k" 563])::
 (nat_lit 284,hT #[])::
 (nat_lit 286,{cls:= .type "code",data:=Data.fields #[hS "_law_cell" 559,hS "_law_cell" 560,hS "/claim/cut.py" 561, .int 174 0, .int 2 0, .int 0 0, .int 0 0, .int 3 0, .ref 281, .bool true, .int 181 0, .ref 282, .none, .ref 283, .ref 284, .ref 285, .int 564 0, .int 174 0,hS "/claim/cut.py" 565]})::
 (nat_lit 287,hF "_law_cell" (top 46) (hS "law_cellpatches_k52_whole_melts" 557) 286)::
 (nat_lit 288,hT #[])::
 (nat_lit 290,hT #[hS "_law_script" 570,hS "_law_k" 571,hS "_law_many" 572,hS "_law_cell_here" 573])::
 (nat_lit 291,hT #[])::
 (nat_lit 293,{cls:= .type "code",data:=Data.fields #[hS "_law_drawn" 567,hS "_law_drawn" 568,hS "/claim/cut.py" 569, .int 178 0, .int 3 0, .int 0 0, .int 0 0, .int 3 0, .ref 288, .bool true, .int 181 0, .ref 289, .none, .ref 290, .ref 291, .ref 292, .int 574 0, .int 178 0,hS "/claim/cut.py" 575]})::
 (nat_lit 294,hF "_law_drawn" (top 47) (hS "law_cellpatches_k52_whole_melts" 557) 293)::
 (nat_lit 295,hT #[])::
 (nat_lit 298,{cls:= .type "code",data:=Data.fields #[hS "_law_board" 577,hS "_law_board" 578,hS "/claim/cut.py" 579, .int 182 0, .int 3 0, .int 0 0, .int 0 0, .int 3 0, .ref 295, .bool true, .int 181 0, .ref 296, .none, .none, .none, .ref 297, .int 580 0, .int 182 0,hS "/claim/cut.py" 581]})::
 (nat_lit 299,hF "_law_board" (top 48) (hS "law_cellpatches_k52_whole_melts" 557) 298)::
 (nat_lit 300,hT #[])::
 (nat_lit 303,{cls:= .type "code",data:=Data.fields #[hS "law" 583,hS "law" 584,hS "/claim/cut.py" 585, .int 191 0, .int 1 0, .int 0 0, .int 0 0, .int 3 0, .ref 300, .bool true, .int 181 0, .ref 301, .none, .none, .none, .ref 302, .int 586 0, .int 191 0,hS "/claim/cut.py" 587]})::
 (nat_lit 304,hF "law" (top 49) (hS "law_cellpatches_k52_whole_melts" 557) 303)::[]
def nr:List Nat:=[2,3,15,22,23,24,25,28,35,36,37,40,47,48,49,52,59,60,61,64,71,72,73,76,78,79,81,82,83,85,86,88,89,90,93,94,95,98,99,100,102,103,105,106,107,109,110,112,113,114,116,117,119,120,121,123,124,126,127,128,131,132,133,135,136,138,139,140,142,143,145,146,147,149,150,152,153,154,156,157,159,160,161,163,164,166,167,168,171,172,173,175,176,178,179,180,182,183,185,186,187,190,191,192,194,195,197,198,199,201,202,204,205,206,208,209,211,212,213,215,216,218,219,220,222,223,225,226,227,229,230,232,233,234,236,237,239,240,241,243,244,246,247,248,251,252,253,255,256,258,259,260,262,263,265,266,267,269,270,272,273,274,276,277,279,280,281,283,284,286,287,288,290,291,293,294,295,298,299,300,303,304]
def uX:Program:={PySem.Challenge.pw_cellpatches_k52_whole_melts with main:={PySem.Challenge.pw_cellpatches_k52_whole_melts.main with body:=[top 1,top 2,top 3,top 4,top 5,top 7,top 8,top 9,top 10,top 11,top 12,top 13,top 14,top 15,top 16,top 17,top 18,top 19,top 20,top 21,top 22,top 23,top 24,top 25,top 26,top 28,top 29,top 30,top 31,top 32,top 33,top 35,top 37,top 38,top 39,top 40,top 41,top 42,top 43,top 44,top 46,top 47,top 48,top 49]} }
open PySem.W PyProof.Rows in
set_option maxHeartbeats 0 in
theorem Ih:LeftO PySem.Challenge.rw_cellpatches_k52_whole_melts.row.prog uX [] (fun s=>xlAt uX [] s&&recOk PySem.Challenge.rw_cellpatches_k52_whole_melts.row.records s) (kHook nu nr (fun _=>by kernel_rfl)).obs (kHook nu nr (fun _=>by kernel_rfl)).val 4490:=fun w=>by kernel_rfl
end K1
namespace L2
open PySem PySem.Spec PyProof.Rows
abbrev Key:=Sum Int Str
def nJ:Key→Value→Bool
 | .inl k,v=>Value.isInt k v
 | .inr x,v=>Value.isStrOf x v
def IQ(w:World):Key→Int
 | .inl k=>hashInt k
 | .inr x=>hashStr w x
theorem bI:∀{k:Key}{v:Value},nJ k v=true→(∃i t,k=Sum.inl i∧v=Value.int i t)∨(∃x t,k=Sum.inr x∧v=Value.str x t)
 | .inl i,v,h=>by
   obtain⟨t,e⟩:=Value.isInt_shape (k:=i) (v:=v) h
   exact .inl ⟨i,t,rfl,e⟩
 | .inr x,v,h=>by
   obtain⟨t,e⟩:=Value.isStrOf_shape (x:=x) (v:=v) h
   exact .inr ⟨x,t,rfl,e⟩
theorem yI(i:Int)(t:Tok):nJ (.inl i) (.int i t)=true:=by simp[nJ,Value.isInt]
theorem yJ(x:Str)(t:Tok):nJ (.inr x) (.str x t)=true:=by simp[nJ,Value.isStrOf]
theorem FZ(a b:Int):decide ((Sum.inl a:Key)=Sum.inl b)=(a==b):=by
 by_cases e:a=b
 ·subst e;simp
 ·have h:¬(Sum.inl a:Key)=Sum.inl b:=fun q=>e (Sum.inl.inj q)
  rw[decide_eq_false h]
  exact(beq_eq_false_iff_ne.mpr e).symm
theorem F7(a b:Str):decide ((Sum.inr a:Key)=Sum.inr b)=decide (a=b):=by
 by_cases e:a=b
 ·subst e;simp
 ·have h:¬(Sum.inr a:Key)=Sum.inr b:=fun q=>e (Sum.inr.inj q)
  rw[decide_eq_false h,decide_eq_false e]
theorem F0(a:Int)(b:Str):decide ((Sum.inl a:Key)=Sum.inr b)=false:=decide_eq_false (fun q=>nomatch q)
theorem F4(a:Str)(b:Int):decide ((Sum.inr a:Key)=Sum.inl b)=false:=decide_eq_false (fun q=>nomatch q)
def aU(prog:Program)(w:World):PySem.KeyKind prog w Key where
 is:=nJ
 hash:=IQ w
 inj:=fun v a b ha hb=>by
  rcases bI ha with⟨i,t,rfl,rfl⟩ | ⟨x,t,rfl,rfl⟩
  ·rcases bI hb with⟨j,u,rfl,e⟩ | ⟨y,u,rfl,e⟩
   ·injection e with e1 _;rw[e1]
   ·exact nomatch e
  ·rcases bI hb with⟨j,u,rfl,e⟩ | ⟨y,u,rfl,e⟩
   ·exact nomatch e
   ·injection e with e1 _;rw[e1]
 byValue:=fun k v h=>by
  rcases bI h with⟨i,t,rfl,rfl⟩ | ⟨x,t,rfl,rfl⟩<;>rfl
 pyHash:=fun hv h=>by
  rcases bI hv with⟨i,t,rfl,rfl⟩ | ⟨x,t,rfl,rfl⟩
  ·exact wpAny_pyHash_int h
  ·exact wpAny_pyHash_str h
 eqBool:=fun hu hv h=>by
  rcases bI hu with⟨i,t,rfl,rfl⟩ | ⟨x,t,rfl,rfl⟩
  ·rcases bI hv with⟨j,u,rfl,rfl⟩ | ⟨y,u,rfl,rfl⟩
   ·rw[FZ] at h;exact wpAny_eqBool_int h
   ·rw[F0] at h;exact SeqAt.EqAt.int_str i t y u _ _ _ _ h
  ·rcases bI hv with⟨j,u,rfl,rfl⟩ | ⟨y,u,rfl,rfl⟩
   ·rw[F4] at h;exact SeqAt.EqAt.str_int x t j u _ _ _ _ h
   ·rw[F7] at h;exact wpAny_eqBool_str h
 «strs» :=fun k x t v h=>by
  rcases bI h with⟨i,u,rfl,e⟩ | ⟨y,u,rfl,e⟩
  ·exact nomatch e
  ·injection e with e1 _
   subst e1
   cases v<;>rfl
theorem ua(prog:Program)(w:World)(i:Int)(t:Tok):(aU prog w).is (.inl i) (.int i t)=true:=yI i t
theorem ub(prog:Program)(w:World)(x:Str)(t:Tok):(aU prog w).is (.inr x) (.str x t)=true:=yJ x t
inductive V where
 |non | bl (b:Bool) | int (i:Int) | str (x:Str) | byt (b:Array UInt8) | flt (b:UInt64) | ref (a:Addr) | ty (n:String)
 deriving DecidableEq
def RelV:V→Value→Prop
 | .non,u=>u=Value.none
 | .bl b,u=>u=Value.bool b
 | .int i,u=>∃t,u=Value.int i t
 | .str x,u=>∃t,u=Value.str x t
 | .byt b,u=>∃t,u=Value.bytes b t
 | .flt b,u=>∃t,u=Value.float b t
 | .ref a,u=>u=Value.ref a
 | .ty n,u=>u=Value.type n
abbrev Vals:List V→List Value→Prop:=Paired RelV
theorem Vals.length{xs:List V}{us:List Value}(r:Vals xs us):xs.length=us.length:=Paired.length r
theorem Vals.get:∀{xs:List V}{us:List Value}{i:Nat}{x:V},Vals xs us→xs[i]? =some x→∃u,us[i]? =some u∧RelV x u
 |_,_,_,_, .nil,e=>by simp at e
 |_,_,0,_, .cons r _,e=>by simp at e;subst e;exact⟨_,rfl,r⟩
 |_,_,i+1,x, .cons _ t,e=>by
  obtain⟨u,h1,h2⟩:=Vals.get (i:=i) (x:=x) t (by simpa using e)
  exact⟨u,by simpa using h1,h2⟩
theorem Vals.append:∀{xs ys:List V}{us ws:List Value},Vals xs us→Vals ys ws→Vals (xs++ys) (us++ws)
 |_,_,_,_, .nil,s=>s
 |_,_,_,_, .cons r t,s=> .cons r (Vals.append t s)
theorem Vals.take:∀{xs:List V}{us:List Value}(n:Nat),Vals xs us→Vals (xs.take n) (us.take n)
 |_,_,0,_=> .nil
 |_,_,_+1, .nil=> .nil
 |_,_,n+1, .cons r t=> .cons r (Vals.take n t)
theorem Vals.drop:∀{xs:List V}{us:List Value}(n:Nat),Vals xs us→Vals (xs.drop n) (us.drop n)
 |_,_,0,r=>r
 |_,_,_+1, .nil=> .nil
 |_,_,n+1, .cons _ t=>Vals.drop n t
def RelO:Option V→Option Value→Prop
 |some v,some u=>RelV v u
 |none,none=>True
 |_,_=>False
def KV{κ:Type}:List (κ×V)→List (κ×Value)→Prop:=Paired fun(p:κ×V) (q:κ×Value)=>p.1=q.1∧RelV p.2 q.2
def kV:Key→V
 | .inl i=> .int i
 | .inr x=> .str x
inductive HO where
 |lst (xs:List V)
 |tup (xs:List V)
 |dK (aw:List (Key×V)) | dT (aw:List (List Key×V))
 |set (S:Int→Bool) (n:Nat)
 |ins (C dx:Addr) (fs:List (Str×V))
 |own (x:Addr)
 |xd (fs:List (Str×V))
 |met (f x:Addr)
 |rng (lo hi:Int)
 |frz (o:Obj) (u:HO)
 |tbl (ps:Array Value)
 |ext (φ:Heap→Prop)
abbrev Hp:=Addr→Option HO
def upd(H:Hp)(a:Addr)(o:HO):Hp:=fun b=>if b=a then some o else H b
theorem aD{H:Hp}{a:Addr}{o:HO}:upd H a o a=some o:=by unfold upd;rw[if_pos rfl]
theorem ax{H:Hp}{a b:Addr}{o:HO}(h:b≠a):upd H a o b=H b:=by unfold upd;rw[if_neg h]
theorem AU{H:Hp}{a b:Addr}{o u:HO}(h:H a=some o)(h':H b=some u)(d:o≠u):a≠b:=by
 intro e;subst e;rw[h] at h';exact d (Option.some.inj h')
theorem a7{H:Hp}{a b:Addr}{o:HO}(h:H a=some o)(h':H b=none):a≠b:=by
 intro e;subst e;rw[h] at h';cases h'
section
variable(P:Program)(w:World)
def ObjOk(H:Hp)(h:Heap)(a:Addr):HO→Prop
 | .lst xs=>xs.length≤sizeLine∧∃(aB:List Value) (n:Nat),Vals xs aB∧h.get? a=some {cls:= .type "list",data:= .seq aB.toArray n}
 | .tup xs=>xs.length≤sizeLine∧∃aB:List Value,Vals xs aB∧IsTup h a aB.toArray
 | .dK aw=>aw.length≤sizeLine∧(a==sysModules)=false∧∃vs,KV aw vs∧h.DictOf (aU P w) a vs
 | .dT aw=>aw.length≤sizeLine∧(a==sysModules)=false∧∃xs:List (List Key×Addr×Value),
    Paired (fun (p:List Key×V) (q:List Key×Addr×Value)=>p.1=q.1∧H q.2.1=some (.tup (p.1.map kV))∧RelV p.2 q.2.2) aw xs∧
    ∃o es ep,h.get? a=some o∧o.ExactDict∧o.data= .dict es ep∧es.toList=xs.map (entryOfKey (tupleKind (aU P w)))∧(xs.map (·.1)).Nodup
 | .set S n=>h.SetOf (intKind P w) a S n
 | .ins C dx fs=>H dx=some (.own a)∧fs.length≤1000∧dx≠a∧h.get? a=some (PySem.W.instObj C dx)∧
    ∃mA,h.Ns1 dx mA∧(∀f,RelO (fs.lookup f) (mA f))∧PySem.Within mA (fs.map (·.1))
 | .own _=>∃o,h.get? a=some o
 | .xd fs=>∃mA,h.Ns1 a mA∧∀f,RelO (fs.lookup f) (mA f)
 | .rng lo hi=>∃t u v,h.get? a=some {cls:= .type "range",data:= .fields #[.int lo t, .int hi u, .int 1 v]}
 | .frz o u=>h.get? a=some o∧ObjOk H h a u
 | .tbl ps=>h.get? a=some {cls:= .none,data:= .fields ps}
 | .met f x=>h.get? a=some (PySem.W.methodObj (.ref f) (.ref x))
 | .ext φ=>φ h∧(∃o,h.get? a=some o)∧∀h1 h2:Heap,φ h1→(∀o,h1.get? a=some o→h2.get? a=some o)→φ h2
def HOk(H:Hp)(h:Heap):Prop:=∀a o,H a=some o→ObjOk P w H h a o
end
section
variable{P:Program}{w:World}{H H':Hp}{h h':Heap}{a:Addr}{o:HO}
theorem ObjOk.lt(x:ObjOk P w H h a o):a<h.objs.size:=by
 cases o with
 |lst xs=>obtain⟨_,_,_,_,e⟩:=x;exact Heap.lt_size e
 |tup xs=>obtain⟨_,_,_,p⟩:=x;exact p.lt
 |dK aw=>obtain⟨_,_,_,_,o,_,_,e,_⟩:=x;exact Heap.lt_size e
 |dT aw=>obtain⟨_,_,_,_,o,_,_,e,_⟩:=x;exact Heap.lt_size e
 |set S n=>obtain⟨o,_,_,_,e,_⟩:=x;exact Heap.lt_size e
 |ins C dx fs=>obtain⟨_,_,_,e,_⟩:=x;exact Heap.lt_size e
 |own y=>obtain⟨_,e⟩:=x;exact Heap.lt_size e
 |xd fs=>obtain⟨_,⟨_,_,_,e,_⟩,_⟩:=x;exact Heap.lt_size e
 |rng lo hi=>obtain⟨_,_,_,e⟩:=x;exact Heap.lt_size e
 |frz ob u=>obtain⟨e,_⟩:=x;exact Heap.lt_size e
 |tbl ps=>exact Heap.lt_size (show h.get? a=some _ from x)
 |met f y=>exact Heap.lt_size (show h.get? a=some _ from x)
 |ext φ=>obtain⟨_,⟨_,e⟩,_⟩:=x;exact Heap.lt_size e
theorem Paired.mapP{α β:Type}{F G:α→β→Prop}:∀{l₁:List α}{l₂:List β},Paired F l₁ l₂→(∀a b,F a b→G a b)→Paired G l₁ l₂
 |_,_, .nil,_=> .nil
 |_,_, .cons r t,f=> .cons (f _ _ r) (Paired.mapP t f)
theorem ObjOk.stay(x:ObjOk P w H h a o)(k:∀b u,(b=a∨H b=some (.own a))→h.get? b=some u→h'.get? b=some u)
 (ho:∀b,H b=some (.own a)→H' b=some (.own a))(ht:∀b xs,H b=some (.tup xs)→H' b=some (.tup xs)):ObjOk P w H' h' a o:=by
 induction o with
 |lst xs=>obtain⟨z,aB,n,r,e⟩:=x;exact⟨z,aB,n,r,k _ _ (.inl rfl) e⟩
 |tup xs=>obtain⟨z,aB,r,ob,e,c⟩:=x;exact⟨z,aB,r,ob,k _ _ (.inl rfl) e,c⟩
 |dK aw=>obtain⟨z,y,vs,r,ob,es,ep,e,c⟩:=x;exact⟨z,y,vs,r,ob,es,ep,k _ _ (.inl rfl) e,c⟩
 |dT aw=>
  obtain⟨z,y,xs,r,ob,es,ep,e,c⟩:=x
  exact⟨z,y,xs,Paired.mapP r fun p q z=>⟨z.1,ht _ _ z.2.1,z.2.2⟩,ob,es,ep,k _ _ (.inl rfl) e,c⟩
 |set S n=>obtain⟨ob,es,ep,t,e,c⟩:=x;exact⟨ob,es,ep,t,k _ _ (.inl rfl) e,c⟩
 |ins C dx fs=>
  obtain⟨d,z,ne,e,mA,⟨od,es,ep,e2,c⟩,r⟩:=x
  exact⟨ho _ d,z,ne,k _ _ (.inl rfl) e,mA,⟨od,es,ep,k _ _ (.inr d) e2,c⟩,r⟩
 |own y=>obtain⟨ob,e⟩:=x;exact⟨ob,k _ _ (.inl rfl) e⟩
 |xd fs=>obtain⟨mA,⟨od,es,ep,e,c⟩,r⟩:=x;exact⟨mA,⟨od,es,ep,k _ _ (.inl rfl) e,c⟩,r⟩
 |rng lo hi=>obtain⟨t,u,v,e⟩:=x;exact⟨t,u,v,k _ _ (.inl rfl) e⟩
 |frz ob u ih=>obtain⟨e,q⟩:=x;exact⟨k _ _ (.inl rfl) e,ih q⟩
 |tbl ps=>
  have e:h.get? a=some {cls:= .none,data:= .fields ps}:=x
  show h'.get? a=some {cls:= .none,data:= .fields ps}
  exact k a _ (.inl rfl) e
 |met f y=>
  have e:h.get? a=some (PySem.W.methodObj (.ref f) (.ref y)):=x
  show h'.get? a=some (PySem.W.methodObj (.ref f) (.ref y))
  exact k a _ (.inl rfl) e
 |ext φ=>obtain⟨p,⟨o,e⟩,st⟩:=x;exact⟨st _ _ p fun o q=>k _ _ (.inl rfl) q,⟨o,k _ _ (.inl rfl) e⟩,st⟩
theorem HOk.lt(x:HOk P w H h)(e:H a=some o):a<h.objs.size:=(x a o e).lt
theorem HOk.fresh(x:HOk P w H h)(e:h.objs.size≤a):H a=none:=by
 cases q:H a with
 |none=>rfl
 |some u=>exact absurd (Nat.lt_of_lt_of_le (x.lt q) e) (Nat.lt_irrefl _)
theorem HOk.kept(x:HOk P w H h)(k:∀b u,h.get? b=some u→h'.get? b=some u):HOk P w H h':=fun a o e=>
 (x a o e).stay (fun b u _ q=>k b u q) (fun _ q=>q) fun _ _ q=>q
theorem HOk.laid(x:HOk P w H h)(k:∀b u,h.get? b=some u→h'.get? b=some u)(hp:h.objs.size≤a)(new:ObjOk P w (upd H a o) h' a o):HOk P w (upd H a o) h':=fun b u e=>by
 have hn:=x.fresh hp
 by_cases hb:b=a
 ·subst hb;rw[aD] at e;cases e;exact new
 ·rw[ax hb] at e
  exact(x b u e).stay (fun c v _ q=>k c v q) (fun c q=>by rw[ax (a7 q hn)];exact q) fun c xs q=>by rw[ax (a7 q hn)];exact q
end
def Rd(H:Hp)(a:Addr)(u:HO):Prop:=H a=some u∨∃o,H a=some (.frz o u)
theorem Rd.ok{P:Program}{w:World}{H:Hp}{h:Heap}{a:Addr}{u:HO}(r:Rd H a u)(x:HOk P w H h):ObjOk P w H h a u:=by
 rcases r with r | ⟨o,r⟩
 ·exact x a u r
 ·obtain⟨_,q⟩:=x a _ r
  exact q
def Hn:Option HO→Prop
 |some (.lst _)=>True
 |some (.dK _)=>True
 |some (.dT _)=>True
 |some (.set _ _)=>True
 |some (.ins _ _ _)=>True
 |some (.ext _)=>True
 |_=>False
section
variable{P:Program}{w:World}{H:Hp}{h h':Heap}{x e:Addr}{o':HO}
theorem HOk.write(ok:HOk P w H h)(mu:Hn (H x))(he:e=x∨H e=some (.own x))(k:∀b u,b≠e→h.get? b=some u→h'.get? b=some u)(zD:∃u,h'.get? e=some u)
 (new:ObjOk P w (upd H x o') h' x o'):HOk P w (upd H x o') h':=fun b u q=>by
 have IY:∀c y,H c=some (.own y)→c≠x:=fun c y r z=>by subst z;rw[r] at mu;exact mu
 have LF:∀c xs,H c=some (.tup xs)→c≠x:=fun c xs r z=>by subst z;rw[r] at mu;exact mu
 by_cases hb:b=x
 ·subst hb;rw[aD] at q;cases q;exact new
 ·rw[ax hb] at q
  by_cases FA:b=e
  ·have q':H b=some (.own x):=by
    rcases he with z | z
    ·exact absurd (FA.trans z) hb
    ·rw[FA];exact z
   rw[q] at q';cases q'
   obtain⟨v,hv⟩:=zD
   exact⟨v,by rw[FA];exact hv⟩
  ·refine(ok b u q).stay (fun c v hc r=>k c v ?_ r) (fun c r=>by rw[ax (IY c b r)];exact r) fun c xs r=>by rw[ax (LF c xs r)];exact r
   rcases hc with rfl | hc
   ·exact FA
   ·rintro rfl
    rcases he with z | z
    ·exact IY c b hc z
    ·rw[hc] at z;cases z;exact hb rfl
end
structure Un (fs ex:List Addr) (H H':Hp) (h h':Heap):Prop where
 keep:∀b o,h.get? b=some o→H b=none→b∉fs→b∉ex→h'.get? b=some o
 slot:∀b o,h.get? b=some o→H b=none→b∈fs→b∉ex→∃sl,h'.get? b=some {o with slots:=sl}
 free:∀b o,h.get? b=some o→H b=none→b∉ex→H' b=none
 there:∀b o,h.get? b=some o→b∉ex→∃o',h'.get? b=some o'
 tups:∀b xs,H b=some (.tup xs)→H' b=some (.tup xs)
 frzs:∀b o u,H b=some (.frz o u)→H' b=some (.frz o u)
 tbls:∀b ps,H b=some (.tbl ps)→∃more,H' b=some (.tbl (ps++more))
section
variable{fs KA ex vF:List Addr}{H H1 H2:Hp}{h h1 h2 h':Heap}{a x e:Addr}{o:HO}
theorem Un.any(u:Un fs ex H H1 h h1){b:Addr}{ob:Obj}(q:h.get? b=some ob)(n:H b=none)(hx:b∉ex):∃sl,h1.get? b=some {ob with slots:=sl}:=by
 by_cases hb:b∈fs
 ·exact u.slot b ob q n hb hx
 ·exact⟨ob.slots,u.keep b ob q n hb hx⟩
theorem Un.trans(a:Un fs ex H H1 h h1)(b:Un fs ex H1 H2 h1 h2):Un fs ex H H2 h h2 where
 keep:=fun c ob q n hc hx=>b.keep c ob (a.keep c ob q n hc hx) (a.free c ob q n hx) hc hx
 slot:=fun c ob q n hc hx=>by
  obtain⟨sl,e1⟩:=a.slot c ob q n hc hx
  obtain⟨GW,e2⟩:=b.slot c _ e1 (a.free c ob q n hx) hc hx
  exact⟨GW,e2⟩
 free:=fun c ob q n hx=>by
  obtain⟨o',e1⟩:=a.there c ob q hx
  exact b.free c o' e1 (a.free c ob q n hx) hx
 there:=fun c ob q hx=>by
  obtain⟨o',e1⟩:=a.there c ob q hx
  exact b.there c o' e1 hx
 tups:=fun c xs q=>b.tups c xs (a.tups c xs q)
 frzs:=fun c ob xs q=>b.frzs c ob xs (a.frzs c ob xs q)
 tbls:=fun c ps q=>by
  obtain⟨m1,e1⟩:=a.tbls c ps q
  obtain⟨m2,e2⟩:=b.tbls c _ e1
  exact⟨m1++m2,by rw[e2,Array.append_assoc]⟩
theorem Un.kept(k:∀b u,h.get? b=some u→h'.get? b=some u):Un fs ex H H h h':=
 ⟨fun b ob q _ _ _=>k b ob q,fun b ob q _ _ _=>⟨ob.slots,k b ob q⟩,fun _ _ _ n _=>n,fun b ob q _=>⟨ob,k b ob q⟩,fun _ _ q=>q,fun _ _ _ q=>q,fun _ ps q=>⟨#[],by rw[q];simp⟩⟩
theorem Un.refl:Un fs ex H H h h:=Un.kept fun _ _ q=>q
theorem Un.laid(k:∀b u,h.get? b=some u→h'.get? b=some u)(hp:h.objs.size≤a)(hn:H a=none):Un fs ex H (upd H a o) h h' where
 keep:=fun b u q _ _ _=>k b u q
 slot:=fun b u q _ _ _=>⟨u.slots,k b u q⟩
 free:=fun b u q n _=>by rw[ax (Nat.ne_of_lt (Nat.lt_of_lt_of_le (Heap.lt_size q) hp))];exact n
 there:=fun b u q _=>⟨u,k b u q⟩
 tups:=fun b xs q=>by rw[ax (a7 q hn)];exact q
 frzs:=fun b u xs q=>by rw[ax (a7 q hn)];exact q
 tbls:=fun b ps q=>⟨#[],by rw[ax (a7 q hn),q];simp⟩
theorem Un.write(mu:Hn (H x))(he:e=x∨H e=some (.own x))(k:∀b u,b≠e→h.get? b=some u→h'.get? b=some u)(zD:∃u,h'.get? e=some u):Un fs ex H (upd H x o) h h':=by
 have hx:∀b,H b=none→b≠x:=fun b n z=>by subst z;rw[n] at mu;exact mu
 have hb:∀b,H b=none→b≠e:=fun b n z=>by
  subst z
  rcases he with r | r
  ·exact hx b n r
  ·rw[n] at r;cases r
 have hm:∀b u,H b=some u→¬Hn (some u)→b≠x:=fun b u q nm z=>by subst z;rw[q] at mu;exact nm mu
 refine⟨fun b u q n _ _=>k b u (hb b n) q,fun b u q n _ _=>⟨u.slots,k b u (hb b n) q⟩,fun b u q n _=>by rw[ax (hx b n)];exact n,fun b u q _=>?_,
  fun b xs q=>by rw[ax (hm b _ q fun z=>z)];exact q,fun b u xs q=>by rw[ax (hm b _ q fun z=>z)];exact q,fun b ps q=>⟨#[],by rw[ax (hm b _ q fun z=>z),q];simp⟩⟩
 by_cases FA:b=e
 ·subst FA;exact zD
 ·exact⟨u,k b u FA q⟩
theorem Un.mono(u:Un fs ex H H1 h h1)(hs:∀b∈fs,b∈KA)(hx:∀b∈ex,b∈vF):Un KA vF H H1 h h1:=
 ⟨fun b ob q n hb he=>u.keep b ob q n (fun z=>hb (hs b z)) fun z=>he (hx b z),fun _ _ q n _ he=>u.any q n fun z=>he (hx _ z),fun b ob q n he=>u.free b ob q n fun z=>he (hx b z),fun b ob q he=>u.there b ob q fun z=>he (hx b z),u.tups,u.frzs,u.tbls⟩
end
def Ko(h:Heap)(H:Hp):List Addr:=(List.range h.objs.size).filter fun a=>(H a).isSome
def rj(h:Heap)(H:Hp):Heap:=PySem.W.hideAll h (Ko h H)
theorem yB(h:Heap)(H:Hp):(rj h H).objs.size=h.objs.size:=PySem.W.hideAll_size _ _
theorem Ao{h:Heap}{H:Hp}{b:Addr}{o:Obj}(e:h.get? b=some o)(n:H b=none):(rj h H).get? b=some o:=
 PySem.W.hideAll_get _ e fun hm=>by
  have q:(H b).isSome=true:=(List.mem_filter.mp hm).2
  rw[n] at q;simp at q
theorem Dj{h:Heap}{H:Hp}{b:Addr}{o:Obj}(e:(rj h H).get? b=some o):h.get? b=some o∧H b=none:=by
 have e':h.get? b=some o:=PySem.W.of_hideAll (Ko h H) e
 refine⟨e',?_⟩
 cases q:H b with
 |none=>rfl
 |some x=>
  have hm:b∈Ko h H:=List.mem_filter.mpr ⟨List.mem_range.mpr (Heap.lt_size e'),by simp[q]⟩
  have z:(rj h H).get? b=none:=PySem.W.hideAll_none (Ko h H) hm
  rw[z] at e;cases e
def Cs(g h:Heap)(L:Addr):List (Addr×Obj):=(List.range h.objs.size).filterMap fun a=>if a=L∨(g.get? a).isSome=true then none else(h.get? a).map fun o=>(a,o)
def rest(g h:Heap)(L d:Addr):List (Addr×Obj):=(Cs g h L).filter fun p=>decide (p.1≠d)
structure Mod (K:W.Frag) (mg:Str→Option Value) (base:Heap):Prop where
 kin:K.In base
 glob:base.Ns mainGlobals mg
 blt:∃mb,base.Ns builtinsNs mb∧∀x:Str,x≠"__name__"→mb x=bootBuiltins x
 nolimit:base.NoLimit
structure Cx where
 prog:Program
 w:World
 K:W.Frag
 mg:Str→Option Value
 base:Heap
 A:Around
 N:List Str
 s₀:Shared
 H₀:Hp
 env:Env
 outer:List Env
 stack:List Env
 ex:List Addr
 fn:Str→Bool
 calm:Bool
 pn:List (Addr×Obj)
 xe:Value→Shared→Prop
def mQ(l:List Env):List Addr:=l.filterMap (·.frame)
abbrev Cx.fs(X:Cx):List Addr:=mQ X.outer
def Ky(sc:Scope)(x:Str):Prop:=sc.names.lookup x=some .local∨sc.names.lookup x=some .cell∨sc.names.lookup x=some .free
def Loc(sc:Scope)(x:Str):Prop:=sc.names.lookup x=some .local∨sc.names.lookup x=some .cell
def Look(env:Env)(h:Heap)(m:Str→Option Value)(x:Str)(u:Value):Prop:=
 (env.kindOf x=some .local∧m x=some u)∨((env.kindOf x=some .cell∨env.kindOf x=some .free)∧∃c,env.cells.lookup x=some c∧h.IsCell c (some u))
structure Cx.Ok (X:Cx):Prop where
 mod:Mod X.K X.mg X.base
 kind:X.env.scope.kind= .function
 glob:X.env.globals=mainGlobals
 blt:X.env.builtins=builtinsNs
 above:X.s₀.heap.objs.size≤X.env.locals
 inj:∀x y c,X.env.cells.lookup x=some c→X.env.cells.lookup y=some c→x=y
 has:∀x,(X.env.kindOf x=some .cell∨X.env.kindOf x=some .free)→∃c,X.env.cells.lookup x=some c
 cab:∀x c,X.fn x=true→X.env.cells.lookup x=some c→X.s₀.heap.objs.size≤c
 hd:X.calm=true→X.A.handled=none
 frames:X.A.frames=some X.stack
 stk:X.stack=X.outer∨(X.stack=X.env::X.outer∧X.env.frame=some X.env.locals)
 exf:∀b∈X.ex,b≠X.env.locals∧∀x c,X.env.cells.lookup x=some c→c≠b
 bs:∀b o,X.base.get? b=some o→X.s₀.heap.get? b=some o∧X.H₀ b=none
 bsz:X.base.objs.size≤X.s₀.heap.objs.size
 noex:∀b o,X.base.get? b=some o→b∉X.ex
 exfs:∀b∈X.ex,b∉X.fs
 funs:X.s₀.heap.FunFrames X.base X.outer
 frf:∀b∈X.fs,X.H₀ b=none
structure Inv (X:Cx) (pins:List (Addr×Obj)) (σ:List (Option V)) (H:Hp) (s:Shared):Prop where
 ok:X.Ok
 os:s.os=X.s₀.os
 bare:AllBare s.gens
 base:Un X.fs X.ex X.H₀ H X.s₀.heap s.heap
 loc:∃m,s.heap.Ns X.env.locals m∧∀(i:Nat) (x:Str) (v:V),X.N[i]? =some x→σ[i]? =some (some v)→Ky X.env.scope x→∃u,RelV v u∧Look X.env s.heap m x u
 cell:∀x c,X.env.cells.lookup x=some c→∃v,s.heap.IsCell c v
 free:H X.env.locals=none
 freeC:∀x c,X.env.cells.lookup x=some c→H c=none
 pin:∀p∈X.pn++pins,s.heap.get? p.1=some p.2∧H p.1=none∧p.1≠X.env.locals∧p.1∉X.fs∧∀v,p.2.data≠ .cell v
 hok:HOk X.prog X.w H s.heap
 len:σ.length=X.N.length
section
variable{X:Cx}{pins:List (Addr×Obj)}{σ:List (Option V)}{H H':Hp}{s:Shared}{h':Heap}
theorem Cx.Ok.nofr(ok:X.Ok){b:Addr}{o:Obj}(e:X.base.get? b=some o):b∉X.fs:=fun hb=>by
 have:=(ok.funs.mem hb).1
 rw[e] at this;cases this
theorem Inv.bs(I:Inv X pins σ H s):∀b o,X.base.get? b=some o→s.heap.get? b=some o∧H b=none:=fun b o e=>
 ⟨I.base.keep b o (I.ok.bs b o e).1 (I.ok.bs b o e).2 (I.ok.nofr e) (I.ok.noex b o e),I.base.free b o (I.ok.bs b o e).1 (I.ok.bs b o e).2 (I.ok.noex b o e)⟩
theorem Inv.bk(I:Inv X pins σ H s):∀b o,X.base.get? b=some o→s.heap.get? b=some o:=fun b o e=>(I.bs b o e).1
theorem Inv.mod(I:Inv X pins σ H s):Mod X.K X.mg X.base:=I.ok.mod
theorem Inv.kIn(I:Inv X pins σ H s):X.K.In s.heap:=I.ok.mod.kin.keeps I.bk
theorem Inv.nolimit(I:Inv X pins σ H s):s.heap.NoLimit:=I.ok.mod.nolimit.keeps I.bk
theorem Inv.lt(I:Inv X pins σ H s):X.env.locals<s.heap.objs.size:=let ⟨_,hn,_⟩:=I.loc;hn.lt
theorem Inv.sz(I:Inv X pins σ H s):X.s₀.heap.objs.size≤s.heap.objs.size:=Nat.le_trans I.ok.above (Nat.le_of_lt I.lt)
theorem Inv.nofs(I:Inv X pins σ H s){a:Addr}(h:s.heap.objs.size≤a):a∉X.fs:=fun hb=>by
 obtain⟨_,o,ho,_⟩:=I.ok.funs.mem hb
 exact absurd (Nat.lt_of_lt_of_le (Heap.lt_size ho) (Nat.le_trans I.sz h)) (Nat.lt_irrefl _)
theorem Inv.cne(I:Inv X pins σ H s):∀x c,X.env.cells.lookup x=some c→c≠X.env.locals:=fun x c e z=>by
 obtain⟨v,o,ho,hd⟩:=I.cell x c e
 obtain⟨m,⟨o',es,ep,pW,mB,_⟩,_⟩:=I.loc
 rw[z,pW] at ho;cases ho;rw[mB] at hd;cases hd
theorem Inv.funs(I:Inv X pins σ H s):s.heap.FunFrames X.base X.outer:=by
 have all:∀(l:List Env),(∀b∈mQ l,b∈X.fs)→X.s₀.heap.FunFrames X.base l→s.heap.FunFrames X.base l:=by
  intro l
  induction l with
  |nil=>intro _ _;trivial
  |cons env r ih=>
   intro hs hl
   obtain⟨hk,⟨L,o,hf,hn,ho,hd⟩,hr⟩:=hl
   have hL:L∈X.fs:=hs L (by unfold mQ;rw[List.filterMap_cons,hf];exact List.mem_cons_self)
   obtain⟨sl,e⟩:=I.base.slot L o ho (I.ok.frf L hL) hL fun z=>I.ok.exfs L z hL
   exact⟨hk,⟨L,_,hf,hn,e,hd⟩,ih (fun b hb=>hs b (by unfold mQ;rw[List.filterMap_cons,hf];exact List.mem_cons_of_mem _ hb)) hr⟩
 exact all X.outer (fun _ hb=>hb) I.ok.funs
theorem Inv.stack(I:Inv X pins σ H s):s.heap.FunFrames X.base X.stack:=by
 rcases I.ok.stk with e | ⟨e,hf⟩
 ·rw[e];exact I.funs
 ·rw[e]
  obtain⟨m,hn,_⟩:=I.loc
  refine .cons (by rw[I.ok.kind];decide) hf hn ?_ I.funs
  exact Heap.get?_none_of_le (Nat.le_trans I.ok.bsz I.ok.above)
theorem Inv.stkSub(I:Inv X pins σ H s):∀b∈mQ X.stack,b∈X.env.locals::X.fs:=fun b hb=>by
 rcases I.ok.stk with e | ⟨e,hf⟩
 ·rw[e] at hb;exact List.mem_cons_of_mem _ hb
 ·rw[e] at hb
  unfold mQ at hb
  rw[List.filterMap_cons,hf] at hb
  exact hb
theorem Inv.stkFree(I:Inv X pins σ H s):∀b∈mQ X.stack,H b=none:=fun b hb=>by
 rcases List.mem_cons.mp (I.stkSub b hb) with e | hb
 ·rw[e];exact I.free
 ·obtain⟨_,o,ho,_⟩:=I.ok.funs.mem hb
  exact I.base.free b o ho (I.ok.frf b hb) fun z=>I.ok.exfs b z hb
theorem Inv.step{g':Array GenState}{t':Nat}{d':Drawn}{ch:List Addr}(I:Inv X pins σ H s)
 (Ck:∀b∈ch,(b∈X.ex∨X.s₀.heap.objs.size≤b)∧b≠X.env.locals∧(∀x c,X.env.cells.lookup x=some c→c≠b)∧∀p∈X.pn++pins,p.1≠b)
 (keep:∀b o,b≠X.env.locals→b∉X.fs→b∉ch→s.heap.get? b=some o→H b=none→h'.get? b=some o)
 (slot:∀b o,b≠X.env.locals→b∈X.fs→b∉ch→s.heap.get? b=some o→H b=none→∃sl,h'.get? b=some {o with slots:=sl})(free:∀b o,b∉ch→s.heap.get? b=some o→H b=none→H' b=none)
 (there:∀b o,b∉ch→s.heap.get? b=some o→∃o',h'.get? b=some o')
 (tups:∀b xs,H b=some (.tup xs)→H' b=some (.tup xs))(frzs:∀b o u,H b=some (.frz o u)→H' b=some (.frz o u))(tbls:∀b ps,H b=some (.tbl ps)→∃more,H' b=some (.tbl (ps++more)))
 (ns:∀m,s.heap.Ns X.env.locals m→h'.Ns X.env.locals m)(hok:HOk X.prog X.w H' h')(hg:AllBare g'):
 Inv X pins σ H' {s with heap:=h',gens:=g',drawn:=d',toks:=t'}:=by
 have M4:∀b o,X.s₀.heap.get? b=some o→b≠X.env.locals:=fun b o e=>Nat.ne_of_lt (Nat.lt_of_lt_of_le (Heap.lt_size e) I.ok.above)
 have Kh:∀b o,X.s₀.heap.get? b=some o→b∉X.ex→b∉ch:=fun b o e hx hb=>by
  rcases(Ck b hb).1 with z | z
  ·exact hx z
  ·exact absurd (Nat.lt_of_lt_of_le (Heap.lt_size e) z) (Nat.lt_irrefl _)
 have cellK:∀x c,X.env.cells.lookup x=some c→∀v,s.heap.IsCell c v→h'.IsCell c v:=fun x c e v ⟨o,ho,hd⟩=>by
  have IW:c∉ch:=fun z=>(Ck c z).2.2.1 x c e rfl
  by_cases hc:c∈X.fs
  ·obtain⟨sl,q⟩:=slot c o (I.cne x c e) hc IW ho (I.freeC x c e)
   exact⟨_,q,hd⟩
  ·exact⟨o,keep c o (I.cne x c e) hc IW ho (I.freeC x c e),hd⟩
 refine⟨I.ok,I.os,hg,⟨fun b o e n hb hx=>?_,fun b o e n hb hx=>?_,fun b o e n hx=>?_,fun b o e hx=>?_,fun b xs e=>tups b xs (I.base.tups b xs e),fun b o xs e=>frzs b o xs (I.base.frzs b o xs e),fun b ps e=>?_⟩,?_,fun x c e=>?_,?_,fun x c e=>?_,fun p hp=>?_,hok,I.len⟩
 ·exact keep b o (M4 b o e) hb (Kh b o e hx) (I.base.keep b o e n hb hx) (I.base.free b o e n hx)
 ·obtain⟨sl,e1⟩:=I.base.slot b o e n hb hx
  obtain⟨GW,e2⟩:=slot b _ (M4 b o e) hb (Kh b o e hx) e1 (I.base.free b o e n hx)
  exact⟨GW,e2⟩
 ·obtain⟨o',e1⟩:=I.base.there b o e hx
  exact free b o' (Kh b o e hx) e1 (I.base.free b o e n hx)
 ·obtain⟨o',e1⟩:=I.base.there b o e hx
  exact there b o' (Kh b o e hx) e1
 ·obtain⟨m1,e1⟩:=I.base.tbls b ps e
  obtain⟨m2,e2⟩:=tbls b _ e1
  exact⟨m1++m2,by rw[e2,Array.append_assoc]⟩
 ·obtain⟨m,hn,hl⟩:=I.loc
  refine⟨m,ns m hn,fun i x v e1 e2 e3=>?_⟩
  obtain⟨u,r,l⟩:=hl i x v e1 e2 e3
  refine⟨u,r,?_⟩
  rcases l with l | ⟨k,c,e,z⟩
  ·exact .inl l
  ·exact .inr ⟨k,c,e,cellK x c e _ z⟩
 ·obtain⟨v,z⟩:=I.cell x c e
  exact⟨v,cellK x c e v z⟩
 ·obtain⟨m,⟨o,_,_,ho,_⟩,_⟩:=I.loc
  exact free _ o (fun z=>(Ck _ z).2.1 rfl) ho I.free
 ·obtain⟨v,o,ho,hd⟩:=I.cell x c e
  exact free c o (fun z=>(Ck c z).2.2.1 x c e rfl) ho (I.freeC x c e)
 ·obtain⟨e,n,ne,nf,d⟩:=I.pin p hp
  have IW:p.1∉ch:=fun z=>(Ck p.1 z).2.2.2 p hp rfl
  exact⟨keep p.1 p.2 ne nf IW e n,free p.1 p.2 IW e n,ne,nf,d⟩
theorem Inv.un{t':Nat}(I:Inv X pins σ H s)(u:Un X.fs [] H H' s.heap h')(hok:HOk X.prog X.w H' h'):Inv X pins σ H' {s with heap:=h',toks:=t'}:=by
 obtain⟨m,⟨o,es,ep,ho,r⟩,_⟩:=id I.loc
 obtain⟨sl,hL⟩:=u.any ho I.free (by simp)
 exact I.step (g':=s.gens) (d':=s.drawn) (ch:=[]) (fun _ z=>nomatch z) (fun b o _ hb _ e n=>u.keep b o e n hb (by simp)) (fun b o _ hb _ e n=>u.slot b o e n hb (by simp)) (fun b o _ e n=>u.free b o e n (by simp)) (fun b o _ e=>u.there b o e (by simp)) u.tups u.frzs u.tbls (fun m' hm=>by
  obtain⟨o',EA,z6,pW,r'⟩:=hm
  rw[ho] at pW;cases pW
  exact⟨_,EA,z6,hL,r'⟩) hok I.bare
theorem Inv.call{g':Array GenState}{t':Nat}{d':Drawn}{ch:List Addr}(I:Inv X pins σ H s)(u:Un (mQ X.stack) ch H H' s.heap h')(hok:HOk X.prog X.w H' h')(hg:AllBare g')
 (Ck:∀b∈ch,(b∈X.ex∨X.s₀.heap.objs.size≤b)∧b≠X.env.locals∧(∀x c,X.env.cells.lookup x=some c→c≠b)∧∀p∈X.pn++pins,p.1≠b):
 Inv X pins σ H' {s with heap:=h',gens:=g',drawn:=d',toks:=t'}:=by
 obtain⟨m,⟨o,es,ep,ho,r⟩,_⟩:=id I.loc
 obtain⟨sl,hL⟩:=u.any ho I.free fun z=>(Ck _ z).2.1 rfl
 exact I.step (ch:=ch) Ck (fun b o hL hb hc e n=>u.keep b o e n (fun z=>(List.mem_cons.mp (I.stkSub b z)).elim hL hb) hc) (fun b o _ _ hc e n=>u.any e n hc) (fun b o hc e n=>u.free b o e n hc) (fun b o hc e=>u.there b o e hc) u.tups u.frzs u.tbls (fun m' hm=>by
  obtain⟨o',EA,z6,pW,r'⟩:=hm
  rw[ho] at pW;cases pW
  exact⟨_,EA,z6,hL,r'⟩) hok hg
theorem Inv.turned{t':Nat}{it:Addr}(I:Inv X pins σ H s)(k:∀b o,b≠it→s.heap.get? b=some o→h'.get? b=some o)(hn:H it=none)(hL:it≠X.env.locals)
 (h1:it∈X.ex∨X.s₀.heap.objs.size≤it)(h2:∀x c,X.env.cells.lookup x=some c→c≠it)(h3:∀p∈X.pn++pins,p.1≠it):Inv X pins σ H {s with heap:=h',toks:=t'}:=by
 have EU:∀b u,H b=some u→b≠it:=fun b u e z=>by rw[z,hn] at e;cases e
 refine I.step (g':=s.gens) (d':=s.drawn) (ch:=[it]) (fun b hb=>?_) (fun b o _ _ hc e _=>k b o (fun z=>hc (by simp[z])) e) (fun b o _ _ hc e _=>⟨o.slots,k b o (fun z=>hc (by simp[z])) e⟩) (fun _ _ _ _ n=>n)
  (fun b o hc e=>⟨o,k b o (fun z=>hc (by simp[z])) e⟩) (fun _ _ e=>e) (fun _ _ _ e=>e) (fun b ps e=>⟨#[],by rw[e];simp⟩) (fun m hm=>?_) (fun b u e=>?_) I.bare
 ·have e:b=it:=by simpa using hb
  subst e
  exact⟨h1,hL,h2,h3⟩
 ·obtain⟨o,es,ep,ho,r⟩:=hm
  exact⟨o,es,ep,k _ o (Ne.symm hL) ho,r⟩
 ·refine(I.hok b u e).stay (fun c v hc q=>k c v ?_ q) (fun _ q=>q) fun _ _ q=>q
  rcases hc with z | z
  ·rw[z];exact EU b u e
  ·exact EU c _ z
theorem Inv.tok(I:Inv X pins σ H s)(t:Nat):Inv X pins σ H {s with toks:=t}:=I.un (h':=s.heap) (t':=t) Un.refl I.hok
theorem Inv.kept{t':Nat}(I:Inv X pins σ H s)(k:∀b u,s.heap.get? b=some u→h'.get? b=some u):Inv X pins σ H {s with heap:=h',toks:=t'}:=I.un (Un.kept k) (I.hok.kept k)
theorem Inv.laid{a:Addr}{o:HO}{t':Nat}(I:Inv X pins σ H s)(k:∀b u,s.heap.get? b=some u→h'.get? b=some u)(hp:s.heap.objs.size≤a)(new:ObjOk X.prog X.w (upd H a o) h' a o):
 Inv X pins σ (upd H a o) {s with heap:=h',toks:=t'}:=I.un (Un.laid k hp (I.hok.fresh hp)) (I.hok.laid k hp new)
theorem Inv.write{x e:Addr}{o:HO}{t':Nat}(I:Inv X pins σ H s)(mu:Hn (H x))(he:e=x∨H e=some (.own x))(k:∀b u,b≠e→s.heap.get? b=some u→h'.get? b=some u)(zD:∃u,h'.get? e=some u)
 (new:ObjOk X.prog X.w (upd H x o) h' x o):Inv X pins σ (upd H x o) {s with heap:=h',toks:=t'}:=I.un (Un.write mu he k zD) (I.hok.write mu he k zD new)
theorem Inv.pins_of{E0:List (Addr×Obj)}(I:Inv X pins σ H s)(h:∀p∈E0,s.heap.get? p.1=some p.2∧H p.1=none∧p.1≠X.env.locals∧p.1∉X.fs∧∀v,p.2.data≠ .cell v):Inv X E0 σ H s:=
 ⟨I.ok,I.os,I.bare,I.base,I.loc,I.cell,I.free,I.freeC,fun p hp=>(List.mem_append.mp hp).elim (fun z=>I.pin p (List.mem_append_left _ z)) (h p),I.hok,I.len⟩
theorem uf{N:List Str}(hN:N.Nodup){i j:Nat}{x:Str}(a:N[i]? =some x)(b:N[j]? =some x):i=j:=by
 obtain⟨h1,e1⟩:=List.getElem?_eq_some_iff.mp a
 obtain⟨h2,e2⟩:=List.getElem?_eq_some_iff.mp b
 exact(List.getElem_inj hN).mp (e1.trans e2.symm)
theorem qI{M:Model}{A:Around}{E:Value→Shared→Prop}{i:Nat}{x:Str}{v:V}{u:Value}{Q:Unit→Shared→Prop}(I:Inv X pins σ H s)(hN:X.N.Nodup)(hi:X.N[i]? =some x)(hx:Loc X.env.scope x)(r:RelV v u)
 (h:∀s',Inv X pins (σ.set i (some v)) H s'→(∃a,Heap.SameBut a s.heap s'.heap∧(a=X.env.locals∨X.env.cells.lookup x=some a))→Q () s')(hf:X.fn x=true∨X.env.scope.names.lookup x=some .local:=by first | exact .inl rfl | exact .inr rfl | assumption):wpAny M A (storeName X.env x u) Q E s:=by
 obtain⟨m,hn,hl⟩:=id I.loc
 have KP:(X.env.scope.kind== .class||(X.env.scope.kind== .module&&X.env.locals !=X.env.globals))=false:=by rw[I.ok.kind];rfl
 have MI:i<σ.length:=by rw[I.len];exact(List.getElem?_eq_some_iff.mp hi).1
 have cne:=I.cne
 have tracked:∀{a:Addr}{h':Heap},(∃o,s.heap.get? a=some o∧H a=none)→Heap.SameBut a s.heap h'→HOk X.prog X.w H h':=fun {a h'} ha hs b ob e=>by
  obtain⟨_,_,EI⟩:=ha
  refine(I.hok b ob e).stay (fun c w' hc q=>(hs.2 c ?_).trans q) (fun _ q=>q) fun _ _ q=>q
  rintro rfl
  rcases hc with rfl | hc
  ·rw[EI] at e;cases e
  ·rw[EI] at hc;cases hc
 rcases hx with hk | hk
 ·refine wpAny_storeName_local hk hn (fun h' N7 hs=>?_) KP
  obtain⟨oL,_,_,J7,_⟩:=id hn
  refine h _ ⟨I.ok,I.os,I.bare,⟨fun b o e n hb hx=>?_,fun b o e n hb hx=>?_,I.base.free,fun b o e hx=>?_,I.base.tups,I.base.frzs,I.base.tbls⟩,⟨_,N7,fun j y v' e1 e2 e3=>?_⟩,fun y c e=>?_,I.free,I.freeC,fun p hp=>?_,tracked ⟨oL,J7,I.free⟩ hs,by simpa using I.len⟩ ⟨_,hs, .inl rfl⟩
  ·exact(hs.2 b (Nat.ne_of_lt (Nat.lt_of_lt_of_le (Heap.lt_size e) I.ok.above))).trans (I.base.keep b o e n hb hx)
  ·obtain⟨sl,e1⟩:=I.base.slot b o e n hb hx
   exact⟨sl,(hs.2 b (Nat.ne_of_lt (Nat.lt_of_lt_of_le (Heap.lt_size e) I.ok.above))).trans e1⟩
  ·obtain⟨o',e1⟩:=I.base.there b o e hx
   exact⟨o',(hs.2 b (Nat.ne_of_lt (Nat.lt_of_lt_of_le (Heap.lt_size e) I.ok.above))).trans e1⟩
  ·by_cases hj:j=i
   ·subst hj
    rw[hi] at e1;cases e1
    rw[List.getElem?_set_self MI] at e2
    cases e2
    exact⟨u,r, .inl ⟨hk,by simp⟩⟩
   ·rw[List.getElem?_set_ne (Ne.symm hj)] at e2
    obtain⟨u',r',q⟩:=hl j y v' e1 e2 e3
    refine⟨u',r',?_⟩
    rcases q with⟨k,e⟩ | ⟨k,c,e,z⟩
    ·refine .inl ⟨k,?_⟩
     have:y≠x:=fun e=>hj (uf hN e1 (e▸hi))
     simp[this,e]
    ·exact .inr ⟨k,c,e,z.sameBut hs (cne y c e)⟩
  ·obtain⟨w',z⟩:=I.cell y c e
   exact⟨w',z.sameBut hs (cne y c e)⟩
  ·obtain⟨e,n,ne,nf,d⟩:=I.pin p hp
   exact⟨(hs.2 p.1 ne).trans e,n,ne,nf,d⟩
 ·have K0:X.fn x=true:=by
   rcases hf with z | z
   ·exact z
   ·rw[z] at hk;cases hk
  obtain⟨c,hc⟩:=I.ok.has x (.inl hk)
  obtain⟨w',z⟩:=I.cell x c hc
  refine wpAny_storeName_cell I.ok.kind hk hc z (fun h' ED hs=>?_)
  obtain⟨oc,J8,Ld⟩:=id z
  refine h {s with heap:=h'} ⟨I.ok,I.os,I.bare,⟨fun b o e n hb hx=>?_,fun b o e n hb hx=>?_,I.base.free,fun b o e hx=>?_,I.base.tups,I.base.frzs,I.base.tbls⟩,⟨m,hn.sameBut hs (Ne.symm (cne x c hc)),fun j y v' e1 e2 e3=>?_⟩,fun y c' e=>?_,I.free,I.freeC,fun p hp=>?_,tracked ⟨oc,J8,I.freeC x c hc⟩ hs,by simpa using I.len⟩ ⟨c,hs, .inr hc⟩
  ·exact(hs.2 b (Nat.ne_of_lt (Nat.lt_of_lt_of_le (Heap.lt_size e) (I.ok.cab x c K0 hc)))).trans (I.base.keep b o e n hb hx)
  ·obtain⟨sl,e1⟩:=I.base.slot b o e n hb hx
   exact⟨sl,(hs.2 b (Nat.ne_of_lt (Nat.lt_of_lt_of_le (Heap.lt_size e) (I.ok.cab x c K0 hc)))).trans e1⟩
  ·obtain⟨o',e1⟩:=I.base.there b o e hx
   exact⟨o',(hs.2 b (Nat.ne_of_lt (Nat.lt_of_lt_of_le (Heap.lt_size e) (I.ok.cab x c K0 hc)))).trans e1⟩
  ·by_cases hj:j=i
   ·subst hj
    rw[hi] at e1;cases e1
    rw[List.getElem?_set_self MI] at e2
    cases e2
    exact⟨u,r, .inr ⟨.inl hk,c,hc,ED⟩⟩
   ·rw[List.getElem?_set_ne (Ne.symm hj)] at e2
    obtain⟨u',r',q⟩:=hl j y v' e1 e2 e3
    refine⟨u',r',?_⟩
    rcases q with q | ⟨k,c',e,z'⟩
    ·exact .inl q
    ·refine .inr ⟨k,c',e,z'.sameBut hs ?_⟩
     rintro rfl
     exact hj (uf hN e1 (I.ok.inj _ _ _ e hc▸hi))
  ·by_cases J0:c'=c
   ·subst J0;exact⟨_,ED⟩
   ·obtain⟨w2,z2⟩:=I.cell y c' e
    exact⟨w2,z2.sameBut hs J0⟩
  ·obtain⟨e,n,ne,nf,d⟩:=I.pin p hp
   refine⟨(hs.2 p.1 ?_).trans e,n,ne,nf,d⟩
   intro q
   rw[q,J8] at e
   have q':oc=p.2:=Option.some.inj e
   exact d w' (by rw[←q'];exact Ld)
theorem uS{M:Model}{A:Around}{E:Value→Shared→Prop}{i:Nat}{x:Str}{v:V}{u:Value}{Q:Unit→Shared→Prop}(I:Inv X pins σ H s)(hN:X.N.Nodup)(hi:X.N[i]? =some x)(hx:Loc X.env.scope x)(r:RelV v u)
 (h:∀s',Inv X pins (σ.set i (some v)) H s'→Q () s')(hf:X.fn x=true∨X.env.scope.names.lookup x=some .local:=by first | exact .inl rfl | exact .inr rfl | assumption):wpAny M A (storeName X.env x u) Q E s:=
 qI I hN hi hx r (fun s' I' _=>h s' I') hf
theorem Inv.call'{s':Shared}{ch:List Addr}(I:Inv X pins σ H s)(ho:s'.os=s.os)(u:Un (mQ X.stack) ch H H' s.heap s'.heap)(hok:HOk X.prog X.w H' s'.heap)(hg:AllBare s'.gens)
 (Ck:∀b∈ch,(b∈X.ex∨X.s₀.heap.objs.size≤b)∧b≠X.env.locals∧(∀x c,X.env.cells.lookup x=some c→c≠b)∧∀p∈X.pn++pins,p.1≠b):Inv X pins σ H' s':=by
 obtain⟨h',g',d',t',o'⟩:=s'
 have e:o'=s.os:=ho
 subst e
 exact I.call (g':=g') (t':=t') (d':=d') u hok hg Ck
end
abbrev XK:=Value→Option Addr→Hp→Prop
abbrev St:=List (Option V)
abbrev VK:=V→Hp→Prop
abbrev TE:=St→Hp→VK→Prop
abbrev TT:=St→Hp→(Bool→Hp→Prop)→Prop
abbrev TA:=St→Hp→(List V→Hp→Prop)→Prop
structure Ends where
 nx:St→Hp→Prop
 rt:VK
 bk:St→Hp→Prop:=fun _ _=>False
 ct:St→Hp→Prop:=fun _ _=>False
abbrev TS:=Ends→St→Hp→Prop
def EP(X:Cx)(pins:List (Addr×Obj))(σ:St)(Q:VK)(u:Value)(s':Shared):Prop:=∃v H',Inv X pins σ H' s'∧RelV v u∧Q v H'
def TP(X:Cx)(pins:List (Addr×Obj))(σ:St)(Q:Bool→Hp→Prop)(b:Bool)(s':Shared):Prop:=∃H',Inv X pins σ H' s'∧Q b H'
def AP(X:Cx)(pins:List (Addr×Obj))(σ:St)(Q:List V→Hp→Prop)(us:List Value)(s':Shared):Prop:=∃vs H',Inv X pins σ H' s'∧Vals vs us∧Q vs H'
def SP(X:Cx)(pins:List (Addr×Obj))(D:Ends)(f:Flow)(s':Shared):Prop:=
 match f with
 | .next=>∃σ' H',Inv X pins σ' H' s'∧D.nx σ' H'
 | .brk=>∃σ' H',Inv X pins σ' H' s'∧D.bk σ' H'
 | .cont=>∃σ' H',Inv X pins σ' H' s'∧D.ct σ' H'
 | .ret u=>∃v σ' H',Inv X pins σ' H' s'∧RelV v u∧D.rt v H'
def PE(X:Cx)(e:Expr)(t:TE):Prop:=
 ∀(pins:List (Addr×Obj)) (s:Shared) (σ:St) (H:Hp) (Q:VK),Inv X pins σ H s→t σ H Q→wpAny (model X.prog X.w) X.A (eval e X.env) (EP X pins σ Q) X.xe s
def PT(X:Cx)(e:Expr)(t:TT):Prop:=
 ∀(pins:List (Addr×Obj)) (s:Shared) (σ:St) (H:Hp) (Q:Bool→Hp→Prop),Inv X pins σ H s→t σ H Q→wpAny (model X.prog X.w) X.A (isTrue e X.env (eval e X.env)) (TP X pins σ Q) X.xe s
def PW(X:Cx)(e:Expr)(t:TT):Prop:=
 ∀(whole:Sem Value) (pins:List (Addr×Obj)) (s:Shared) (σ:St) (H:Hp) (Q:Bool→Hp→Prop),Inv X pins σ H s→t σ H Q→wpAny (model X.prog X.w) X.A (isTrue e X.env whole) (TP X pins σ Q) X.xe s
theorem PW.pt{X:Cx}{e:Expr}{t:TT}(h:PW X e t):PT X e t:=h _
def PA(X:Cx)(es:List Expr)(t:TA):Prop:=
 ∀(pos:Pos) (pins:List (Addr×Obj)) (s:Shared) (σ:St) (H:Hp) (Q:List V→Hp→Prop),Inv X pins σ H s→t σ H Q→wpAny (model X.prog X.w) X.A (spliced (backTo pos (starEach es X.env))) (AP X pins σ Q) X.xe s
def PS(X:Cx)(st:Stmt)(t:TS):Prop:=
 ∀(pins:List (Addr×Obj)) (s:Shared) (σ:St) (H:Hp) (D:Ends),Inv X pins σ H s→t D σ H→wpAny (model X.prog X.w) X.A (exec st X.env) (SP X pins D) X.xe s
def PSs(X:Cx)(st:List Stmt)(t:TS):Prop:=
 ∀(pins:List (Addr×Obj)) (s:Shared) (σ:St) (H:Hp) (D:Ends),Inv X pins σ H s→t D σ H→wpAny (model X.prog X.w) X.A (execs st X.env) (SP X pins D) X.xe s
theorem bK{α:Type}{t:Sem α}{Q Q':α→Shared→Prop}{M:Model}{A:Around}{E:Value→Shared→Prop}{s:Shared}(h:wpAny M A t Q E s)(hQ:∀a s,Q a s→Q' a s):wpAny M A t Q' E s:=wpAny_mono h hQ fun _ _ x=>x
section
variable{X:Cx}
theorem bin{a b:Expr}{ta tb:TE}(ha:PE X a ta)(hb:PE X b tb){pins:List (Addr×Obj)}{s:Shared}{σ:St}{H:Hp}{R:V→V→Hp→Prop}(I:Inv X pins σ H s)(h:ta σ H fun x H1=>tb σ H1 fun y H2=>R x y H2)
 {α:Type}{Q:α→Shared→Prop}{f:Value→Value→Sem α}
 (hf:∀v u s2 x y H2,Inv X pins σ H2 s2→RelV x v→RelV y u→R x y H2→wpAny (model X.prog X.w) X.A (f v u) Q X.xe s2):
 wpAny (model X.prog X.w) X.A (eval a X.env) (fun v s₁=>wpAny (model X.prog X.w) X.A (eval b X.env) (fun u s₂=>wpAny (model X.prog X.w) X.A (f v u) Q X.xe s₂) X.xe s₁) X.xe s:=by
 refine bK (ha pins s σ H _ I h) fun v s1 ⟨x,H1,I1,r1,q1⟩=>?_
 refine bK (hb pins s1 σ H1 _ I1 q1) fun u s2 ⟨y,H2,I2,r2,q2⟩=>?_
 exact hf v u s2 x y H2 I2 r1 r2 q2
def oQ(i:Nat):TE:=fun σ H Q=>∃v,σ[i]? =some (some v)∧Q v H
def tC(v:V):TE:=fun _ H Q=>Q v H
theorem Gy{i:Nat}{x:Str}{pos:Pos}(hN:X.N[i]? =some x)(hv:Ky X.env.scope x)(hd:(x==("__debug__":Str))=false:=by decide)(vh:(x==("__classdict__":Str))=false:=by decide):PE X (.Name x pos) (oQ i):=by
 intro pins s σ H Q I h
 obtain⟨v,e,h⟩:=h
 obtain⟨m,hn,hl⟩:=I.loc
 obtain⟨u,r,l⟩:=hl i x v hN e hv
 have fin:EP X pins σ Q u s:=⟨v,H,I,r,h⟩
 rcases l with⟨hk,hm⟩ | ⟨hk,c,hc,EF⟩
 ·exact wpAny_Name (wpAny_loadName_local I.ok.kind hk hn hm fin) hd
 ·rcases hk with hk | hk
  ·exact wpAny_Name (wpAny_loadName_cell I.ok.kind hk hc EF fin) hd
  ·exact wpAny_Name (wpAny_loadName_free I.ok.kind hk hc EF fin vh) hd
theorem Gq{i j pos}:PE X (.Constant (.int i) j pos) (tC (.int i)):=fun _ _ _ H _ I h=>wpAny_Constant_int ⟨.int i,H,I.tok _,⟨_,rfl⟩,h⟩
theorem Jh{b j pos}:PE X (.Constant (.bool b) j pos) (tC (.bl b)):=fun _ _ _ H _ I h=>Constant_bool ⟨.bl b,H,I,rfl,h⟩
theorem Gr{j pos}:PE X (.Constant .none j pos) (tC .non):=fun _ _ _ H _ I h=>Constant_none ⟨.non,H,I,rfl,h⟩
theorem Gv{x j pos}:PE X (.Constant (.str x) j pos) (tC (.str x)):=fun _ _ _ H _ I h=>Calls.Constant_str ⟨.str x,H,I.tok _,⟨_,rfl⟩,h⟩
def Gl(X:Cx)(x:Str):Prop:=X.env.kindOf x=some .globalImplicit
theorem xy{E:Value→Shared→Prop}{pins:List (Addr×Obj)}{s:Shared}{σ:St}{H:Hp}{x:Str}{u:Value}{pos:Pos}{Q:Value→Shared→Prop}(I:Inv X pins σ H s)(hg:Gl X x)(hm:X.mg x=some u)(h:Q u s)
 (hd:(x==("__debug__":Str))=false:=by decide):wpAny (model X.prog X.w) X.A (eval (.Name x pos) X.env) Q E s:=
 Calls.Name_function_global I.ok.kind hg (Calls.loadGlobal_global (by rw[I.ok.glob];exact I.mod.glob.keeps I.bk) hm h) hd
theorem jt{E:Value→Shared→Prop}{pins:List (Addr×Obj)}{s:Shared}{σ:St}{H:Hp}{x:Str}{u:Value}{pos:Pos}{Q:Value→Shared→Prop}(I:Inv X pins σ H s)(hg:Gl X x)(hm:X.mg x=none)(hv:bootBuiltins x=some u)(h:Q u s)
 (hn:x≠"__name__":=by decide)(hd:(x==("__debug__":Str))=false:=by decide):wpAny (model X.prog X.w) X.A (eval (.Name x pos) X.env) Q E s:=by
 obtain⟨mb,h1,h2⟩:=I.mod.blt
 exact Calls.Name_function_global I.ok.kind hg (Calls.loadGlobal_builtin (by rw[I.ok.glob];exact I.mod.glob.keeps I.bk) hm (by rw[I.ok.blt];exact h1.keeps I.bk) ((h2 x hn).trans hv) h) hd
theorem DN{x:Str}{v:V}{u:Value}{pos:Pos}(hg:Gl X x)(hm:X.mg x=some u)(r:RelV v u)(hd:(x==("__debug__":Str))=false:=by decide):PE X (.Name x pos) (tC v):=
 fun _ _ _ H _ I h=>xy I hg hm ⟨v,H,I,r,h⟩ hd
theorem DJ{x:Str}{v:V}{u:Value}{pos:Pos}(hg:Gl X x)(hm:X.mg x=none)(hv:bootBuiltins x=some u)(r:RelV v u)(hn:x≠"__name__":=by decide)(hd:(x==("__debug__":Str))=false:=by decide):PE X (.Name x pos) (tC v):=
 fun _ _ _ H _ I h=>jt I hg hm hv ⟨v,H,I,r,h⟩ hn hd
variable{a b:Expr}{ta tb:TE}{pos:Pos}
def PC(X:Cx)(op:CmpOp)(a b:Expr)(t:TE):Prop:=
 ∀(pins:List (Addr×Obj)) (s:Shared) (σ:St) (H:Hp) (Q:VK),Inv X pins σ H s→t σ H Q→
  wpAny (model X.prog X.w) X.A (eval a X.env) (fun v s₁=>wpAny (model X.prog X.w) X.A (eval b X.env) (fun u s₂=>wpAny (model X.prog X.w) X.A (compareOp op v u) (EP X pins σ Q) X.xe s₂) X.xe s₁) X.xe s
theorem AW(b:Expr){op:CmpOp}(h:op≠ .In)(h2:op≠ .NotIn):behindInMarks op b=false:=by
 have e1:(op==CmpOp.In)=false:=by cases op<;>first | rfl | exact absurd rfl h
 have e2:(op==CmpOp.NotIn)=false:=by cases op<;>first | rfl | exact absurd rfl h2
 cases b<;>simp[behindInMarks,e1,e2]
theorem Gp{op:CmpOp}{t:TE}(h:PC X op a b t)(h1:behindInMarks op b=false:=by first | exact AW _ (by decide) (by decide) | rfl):PE X (.Compare a [op] [b] pos) t:=fun pins s σ H Q I hw=>wpAny_Compare1 (h pins s σ H Q I hw) h1
variable{tA b9:TT}{rest:List Expr}
def LQ(t u:TT):TT:=fun σ H Q=>t σ H fun c H1=>if c=true then u σ H1 Q else Q false H1
def OT(t u:TT):TT:=fun σ H Q=>t σ H fun c H1=>if c=true then Q true H1 else u σ H1 Q
def L0(t:TT):TT:=fun σ H Q=>t σ H fun c H1=>Q (!c) H1
theorem D3(ha:PT X a tA):PW X (.BoolOp .And [a] pos) tA:=by
 intro wh pins s σ H Q I h
 refine isTrue_and (bK (ha pins s σ H Q I h) fun c s1 e=>?_)
 cases c with
 |true=>exact isTrue_and_nil e
 |false=>exact e
theorem GK(ha:PT X a tA):PW X (.BoolOp .Or [a] pos) tA:=by
 intro wh pins s σ H Q I h
 refine isTrue_or (bK (ha pins s σ H Q I h) fun c s1 e=>?_)
 cases c with
 |false=>exact isTrue_or_nil e
 |true=>exact e
theorem GJ(ha:PT X a tA)(hb:PW X (.BoolOp .And (b::rest) pos) b9):PW X (.BoolOp .And (a::b::rest) pos) (LQ tA b9):=by
 intro wh pins s σ H Q I h
 refine isTrue_and (bK (ha pins s σ H _ I h) fun c s1 ⟨H1,I1,q1⟩=>?_)
 cases c with
 |true=>exact hb wh pins s1 σ H1 Q I1 q1
 |false=>exact⟨H1,I1,q1⟩
theorem Jn(ha:PT X a tA)(hb:PW X (.BoolOp .Or (b::rest) pos) b9):PW X (.BoolOp .Or (a::b::rest) pos) (OT tA b9):=by
 intro wh pins s σ H Q I h
 refine isTrue_or (bK (ha pins s σ H _ I h) fun c s1 ⟨H1,I1,q1⟩=>?_)
 cases c with
 |true=>exact⟨H1,I1,q1⟩
 |false=>exact hb wh pins s1 σ H1 Q I1 q1
theorem GH(ha:PT X a tA):PT X (.UnaryOp .Not a pos) (L0 tA):=by
 intro pins s σ H Q I h
 exact isTrue_not (ha pins s σ H (fun c H1=>Q (!c) H1) I h)
def JB(ta tb:TE):TE:=fun σ H Q=>ta σ H fun x H1=>∃c,x= .bl c∧if c=true then tb σ H1 Q else Q (.bl false) H1
def JF(ta:TE):TE:=fun σ H Q=>ta σ H fun x H1=>∃c,x= .bl c∧Q (.bl (!c)) H1
theorem Gu{op}{t:TE}(h:PE X a t):PE X (.BoolOp op [a] pos) t:=fun pins s σ H Q I hw=>BoolOp_one (h pins s σ H Q I hw)
theorem Gn(ha:PE X a ta)(hb:PE X (.BoolOp .And (b::rest) pos) tb):PE X (.BoolOp .And (a::b::rest) pos) (JB ta tb):=by
 intro pins s σ H Q I h
 refine BoolOp_and (bK (ha pins s σ H _ I h) fun v s1 ⟨x,H1,I1,r1,q1⟩=>?_)
 obtain⟨c,rfl,q1⟩:=q1
 cases r1
 refine wpAny_truthy_bool ?_
 cases c with
 |true=>exact hb pins s1 σ H1 Q I1 q1
 |false=>exact⟨.bl false,H1,I1,rfl,q1⟩
theorem Gs(ha:PE X a ta):PE X (.UnaryOp .Not a pos) (JF ta):=by
 intro pins s σ H Q I h
 refine UnaryOp_ (bK (ha pins s σ H _ I h) fun v s1 ⟨x,H1,I1,r1,q1⟩=>?_)
 obtain⟨c,rfl,q1⟩:=q1
 cases r1
 exact not_of (wpAny_truthy_bool ⟨.bl (!c),H1,I1,rfl,q1⟩)
def OS(t:TT)(ta tb:TE):TE:=fun σ H Q=>t σ H fun c H1=>if c=true then ta σ H1 Q else tb σ H1 Q
theorem Bv{c:Expr}(hc:PT X c tA)(ha:PE X a ta)(hb:PE X b tb):PE X (.IfExp c a b pos) (OS tA ta tb):=by
 intro pins s σ H Q I h
 refine wpAny_IfExp (bK (hc pins s σ H _ I h) fun d s1 ⟨H1,I1,q1⟩=>?_)
 cases d with
 |true=>exact ha pins s1 σ H1 Q I1 q1
 |false=>exact hb pins s1 σ H1 Q I1 q1
end
def SqL(K:W.Frag)(H:Hp)(a:Addr)(xs:List V):Prop:=
 Rd H a (.lst xs)∨
  ∃(o:Obj) (aB:Array Value) (n:Nat),K.lookup a=some o∧o.cls= .type "list"∧o.dict=none∧o.data= .seq aB n∧aB.size≤sizeLine∧Vals xs aB.toList
def SqT(K:W.Frag)(H:Hp)(a:Addr)(xs:List V):Prop:=
 Rd H a (.tup xs)∨
  ∃(o:Obj) (aB:Array Value) (n:Nat),K.lookup a=some o∧o.cls= .type "tuple"∧o.data= .seq aB n∧aB.size≤sizeLine∧Vals xs aB.toList
def Kz:Value→Option V
 | .none=>some .non
 | .bool b=>some (.bl b)
 | .int i _=>some (.int i)
 | .str x _=>some (.str x)
 | .bytes b _=>some (.byt b)
 | .float b _=>some (.flt b)
 | .ref a=>some (.ref a)
 | .type n=>some (.ty n)
 |_=>none
theorem RelV.abs{x:V}{u:Value}(r:RelV x u):Kz u=some x:=by
 cases x with
 |non=>cases r;rfl
 |bl _=>cases r;rfl
 |int _=>obtain⟨t,rfl⟩:=r;rfl
 |str _=>obtain⟨t,rfl⟩:=r;rfl
 |byt _=>obtain⟨t,rfl⟩:=r;rfl
 |flt _=>obtain⟨t,rfl⟩:=r;rfl
 |ref _=>cases r;rfl
 |ty _=>cases r;rfl
theorem RelV.inj{x y:V}{u:Value}(r:RelV x u)(q:RelV y u):x=y:=Option.some.inj (r.abs.symm.trans q.abs)
theorem Vals.inj:∀{xs ys:List V}{us:List Value},Vals xs us→Vals ys us→xs=ys
 |_,_,_, .nil, .nil=>rfl
 |_,_,_, .cons r t, .cons r' t'=>by rw[r.inj r',Vals.inj t t']
section
variable{X:Cx}{pins:List (Addr×Obj)}{σ:St}{H:Hp}{s:Shared}{a:Addr}{xs ys:List V}
theorem SqL.of{K:W.Frag}(h:H a=some (.lst xs)):SqL K H a xs:= .inl (.inl h)
theorem SqT.of{K:W.Frag}(h:H a=some (.tup xs)):SqT K H a xs:= .inl (.inl h)
theorem Inv.list(I:Inv X pins σ H s)(h:SqL X.K H a xs):∃aB:List Value,Vals xs aB∧PlainL s.heap a aB.toArray∧xs.length≤sizeLine:=by
 rcases h with h | ⟨o,aB,n,hk,hc,hd,hs,hz,r⟩
 ·obtain⟨z,aB,n,r,e⟩:=h.ok I.hok
  exact⟨aB,r,⟨_,n,e,rfl,rfl,rfl⟩,z⟩
 ·refine⟨aB.toList,r,⟨o,n,I.kIn a o hk,hc,hd,by simpa using hs⟩,?_⟩
  have e:=r.length
  simp only[Array.length_toList] at e
  omega
theorem Inv.tuple(I:Inv X pins σ H s)(h:SqT X.K H a xs):∃aB:List Value,Vals xs aB∧IsTup s.heap a aB.toArray∧xs.length≤sizeLine:=by
 rcases h with h | ⟨o,aB,n,hk,hc,hs,hz,r⟩
 ·obtain⟨z,aB,r,p⟩:=h.ok I.hok
  exact⟨aB,r,p,z⟩
 ·refine⟨aB.toList,r,⟨o,I.kIn a o hk,hc,n,by simpa using hs⟩,?_⟩
  have e:=r.length
  simp only[Array.length_toList] at e
  omega
theorem Inv.list_inj(I:Inv X pins σ H s)(h:SqL X.K H a xs)(h':SqL X.K H a ys):xs=ys:=by
 obtain⟨aB,r,⟨o,n,e,_,_,d⟩,_⟩:=I.list h
 obtain⟨its',r',⟨o',n',e',_,_,d'⟩,_⟩:=I.list h'
 rw[e] at e';cases e'
 rw[d] at d'
 injection d' with d1 _
 have:aB=its':=by simpa using congrArg Array.toList d1
 subst this
 exact r.inj r'
theorem Inv.tuple_inj(I:Inv X pins σ H s)(h:SqT X.K H a xs)(h':SqT X.K H a ys):xs=ys:=by
 obtain⟨aB,r,⟨o,e,_,n,d⟩,_⟩:=I.tuple h
 obtain⟨its',r',⟨o',e',_,n',d'⟩,_⟩:=I.tuple h'
 rw[e] at e';cases e'
 rw[d] at d'
 injection d' with d1 _
 have:aB=its':=by simpa using congrArg Array.toList d1
 subst this
 exact r.inj r'
end
abbrev Cx.wish(X:Cx)(E:Value→Shared→Prop):Cx:={X with xe:=E}
abbrev Cx.nox(X:Cx):Cx:=X.wish fun _ _=>False
theorem Cx.Ok.wish{X:Cx}(ok:X.Ok)(E:Value→Shared→Prop):(X.wish E).Ok:=
 ⟨ok.mod,ok.kind,ok.glob,ok.blt,ok.above,ok.inj,ok.has,ok.cab,ok.hd,ok.frames,ok.stk,ok.exf,ok.bs,ok.bsz,ok.noex,ok.exfs,ok.funs,ok.frf⟩
theorem Cx.Ok.unwish{X:Cx}{E:Value→Shared→Prop}(ok:(X.wish E).Ok):X.Ok:=
 ⟨ok.mod,ok.kind,ok.glob,ok.blt,ok.above,ok.inj,ok.has,ok.cab,ok.hd,ok.frames,ok.stk,ok.exf,ok.bs,ok.bsz,ok.noex,ok.exfs,ok.funs,ok.frf⟩
section
variable{X:Cx}{pins:List (Addr×Obj)}{σ:St}{H:Hp}{s:Shared}{E:Value→Shared→Prop}
theorem Inv.wish(I:Inv X pins σ H s)(E:Value→Shared→Prop):Inv (X.wish E) pins σ H s:=⟨I.ok.wish E,I.os,I.bare,I.base,I.loc,I.cell,I.free,I.freeC,I.pin,I.hok,I.len⟩
theorem Inv.unwish(I:Inv (X.wish E) pins σ H s):Inv X pins σ H s:=⟨I.ok.unwish,I.os,I.bare,I.base,I.loc,I.cell,I.free,I.freeC,I.pin,I.hok,I.len⟩
theorem SP.unwish{D:Ends}{f:Flow}{s':Shared}(h:SP (X.wish E) pins D f s'):SP X pins D f s':=by
 cases f with
 |next=>obtain⟨σ',H',I,q⟩:=h;exact⟨σ',H',I.unwish,q⟩
 |brk=>obtain⟨σ',H',I,q⟩:=h;exact⟨σ',H',I.unwish,q⟩
 |cont=>obtain⟨σ',H',I,q⟩:=h;exact⟨σ',H',I.unwish,q⟩
 |ret u=>obtain⟨v,σ',H',I,r,q⟩:=h;exact⟨v,σ',H',I.unwish,r,q⟩
theorem PE.nox{e:Expr}{t:TE}(h:PE X.nox e t):PE X e t:=fun pins s σ H Q I hw=>
 wpAny_mono (h pins s σ H Q (I.wish _) hw) (fun _ _ ⟨v,H',I',r,q⟩=>⟨v,H',I'.unwish,r,q⟩) fun _ _ z=>False.elim z
theorem PT.nox{e:Expr}{t:TT}(h:PT X.nox e t):PT X e t:=fun pins s σ H Q I hw=>
 wpAny_mono (h pins s σ H Q (I.wish _) hw) (fun _ _ ⟨H',I',q⟩=>⟨H',I'.unwish,q⟩) fun _ _ z=>False.elim z
theorem PSs.nox{st:List Stmt}{t:TS}(h:PSs X.nox st t):PSs X st t:=fun pins s σ H D I hw=>
 wpAny_mono (h pins s σ H D (I.wish _) hw) (fun _ _ q=>q.unwish) fun _ _ z=>False.elim z
end
section
variable{X:Cx}{st:Stmt}{rest:List Stmt}{t u:TS}{e:Expr}{te:TE}{pos:Pos}
def JE:TS:=fun D σ H=>D.nx σ H
def L4(t u:TS):TS:=fun D σ H=>t {D with nx:=u D} σ H
theorem DY:PSs X [] JE:=fun _ _ σ H _ I h=>wpAny_execs_nil ⟨σ,H,I,h⟩
theorem BB(h1:PS X st t)(h2:PSs X rest u):PSs X (st::rest) (L4 t u):=by
 intro pins s σ H D I h
 refine wpAny_execs_cons (bK (h1 pins s σ H {D with nx:=u D} I h) fun f s1 q=>?_)
 cases f with
 |next=>
  obtain⟨σ',H',I',q⟩:=q
  exact h2 pins s1 σ' H' D I' q
 |ret v=>exact q
 |brk=>exact q
 |cont=>exact q
theorem DZ(h1:PS X st t):PSs X [st] t:=by
 intro pins s σ H D I h
 refine wpAny_execs_cons (bK (h1 pins s σ H D I h) fun f s1 q=>?_)
 cases f with
 |next=>exact wpAny_execs_nil q
 |ret v=>exact q
 |brk=>exact q
 |cont=>exact q
theorem Inv.quiet{pins:List (Addr×Obj)}{σ:St}{H:Hp}{s:Shared}(I:Inv X pins σ H s):interactive X.env=false:=by simp[interactive,I.ok.kind]
def B5(te:TE):TS:=fun D σ H=>te σ H fun _ H1=>D.nx σ H1
theorem mT(he:PE X e te)(hs:swapsWith e none pos.line X.env=pure false:=by rfl):PS X (.Expr e pos) (B5 te):=by
 intro pins s σ H D I h
 exact wpAny_Expr_any (bK (he pins s σ H _ I h) fun v s1 ⟨x,H1,I1,r1,q1⟩=>⟨σ,H1,I1,q1⟩) I.quiet hs
def L1(te:TE):TS:=fun D σ H=>te σ H D.rt
theorem GD(he:PE X e te):PS X (.Return (some e) pos) (L1 te):=by
 intro pins s σ H D I h
 exact wpAny_Return_some (bK (he pins s σ H _ I h) fun v s1 ⟨x,H1,I1,r1,q1⟩=>⟨x,σ,H1,I1,r1,q1⟩)
def LY(c:TT)(t u:TS):TS:=fun D σ H=>c σ H fun b H1=>if b=true then t D σ H1 else u D σ H1
theorem Jl{c:Expr}{a b:List Stmt}{tc:TT}(hc:PT X c tc)(ha:PSs X a t)(hb:PSs X b u):PS X (.If c a b pos) (LY tc t u):=by
 intro pins s σ H D I h
 refine wpAny_If (bK (hc pins s σ H _ I h) fun d s1 ⟨H1,I1,q1⟩=>?_)
 cases d with
 |true=>exact ha pins s1 σ H1 D I1 q1
 |false=>exact hb pins s1 σ H1 D I1 q1
end
abbrev TG:=V→St→Hp→(St→Hp→Prop)→Prop
abbrev Es:=List V→St→Hp→(St→Hp→Prop)→Prop
def PG(X:Cx)(target:Expr)(t:TG):Prop:=
 ∀(pins:List (Addr×Obj)) (s:Shared) (σ:St) (H:Hp) (v:V) (u:Value) (Q:St→Hp→Prop),Inv X pins σ H s→RelV v u→t v σ H Q→
  wpAny (model X.prog X.w) X.A (assign target X.env u) (fun _ s'=>∃σ' H',Inv X pins σ' H' s'∧Q σ' H') X.xe s
def JP(X:Cx)(ts:List Expr)(t:Es):Prop:=
 ∀(pins:List (Addr×Obj)) (s:Shared) (σ:St) (H:Hp) (vs:List V) (us:List Value) (Q:St→Hp→Prop),Inv X pins σ H s→Vals vs us→t vs σ H Q→
  wpAny (model X.prog X.w) X.A (assignInOrder ((assignEach ts X.env).map (·.2)) us) (fun _ s'=>∃σ' H',Inv X pins σ' H' s'∧Q σ' H') X.xe s
abbrev Kv:=V→V→V→Hp→(Hp→Prop)→Prop
section
variable{X:Cx}{pos:Pos}
def Ag(i:Nat):TG:=fun v σ H Q=>Q (σ.set i (some v)) H
theorem bc{i:Nat}{x:Str}(hN:X.N.Nodup)(hi:X.N[i]? =some x)(hx:Loc X.env.scope x)(hf:X.fn x=true∨X.env.scope.names.lookup x=some .local:=by first | exact .inl rfl | exact .inr rfl | assumption):PG X (.Name x pos) (Ag i):=by
 intro pins s σ H v u Q I r h
 exact wpAny_assign_Name (uS I hN hi hx r (fun s' I'=>⟨_,H,I',h⟩) hf)
def HM:Es:=fun vs σ H Q=>vs=[]∧Q σ H
def EC(t:TG)(u:Es):Es:=fun vs σ H Q=>∃v r,vs=v::r∧t v σ H fun σ' H'=>u r σ' H' Q
theorem r_:JP X [] HM:=by
 intro pins s σ H vs us Q I r h
 obtain⟨e,h⟩:=h
 subst e
 cases r
 exact assignInOrder_nil ⟨σ,H,I,h⟩
theorem gf{e:Expr}{es:List Expr}{t:TG}{u:Es}(h1:PG X e t)(h2:JP X es u)
 (hs:(assignEach (e::es) X.env).map (·.2)=assign e X.env::(assignEach es X.env).map (·.2):=by rfl):JP X (e::es) (EC t u):=by
 intro pins s σ H vs us Q I r h
 obtain⟨v,vr,e1,h⟩:=h
 subst e1
 cases r with
 |cons r rr=>
  rw[hs]
  refine assignInOrder_cons (bK (h1 pins s σ H _ _ _ I r h) fun _ s1 ⟨σ1,H1,I1,q1⟩=>?_)
  exact h2 pins s1 σ1 H1 _ _ Q I1 rr q1
def HN(K:W.Frag)(n:Nat)(t:Es):TG:=fun v σ H Q=>∃a xs,v= .ref a∧SqT K H a xs∧xs.length=n∧t xs σ H Q
theorem wm{es:List Expr}{k:Nat}{t:Es}{n:Nat}(hc:X.calm=true)(h:JP X es t)
 (hn:(assignEach es X.env).length=n:=by rfl)(vi:(assignEach es X.env).findIdx? (·.1)=none:=by rfl):PG X (.Tuple es k pos) (HN X.K n t):=by
 intro pins s σ H v u Q I r hw
 obtain⟨a,xs,e1,hq,hl,hw⟩:=hw
 subst e1
 cases r
 obtain⟨aB,rv,ht,hz⟩:=I.tuple hq
 refine assign_Tuple_tuple (I.ok.hd hc) ht (by simp[hn,←hl,rv.length]) vi fun h' hx=>?_
 have I1:Inv X pins σ H {s with heap:=h'}:=I.kept (t':=s.toks) fun b o e=>hx b o (Nat.ne_of_lt (Heap.lt_size e)) e
 exact h pins _ σ H xs _ Q I1 (by simpa using rv) hw
def nj(to ti:TE)(t:Kv):TG:=fun v σ H Q=>to σ H fun o H1=>ti σ H1 fun i H2=>t o i v H2 fun H3=>Q σ H3
def LR(te:TE)(g:TG):TS:=fun D σ H=>te σ H fun x H1=>g x σ H1 D.nx
theorem sd{tg e:Expr}{te:TE}{g:TG}(he:PE X e te)(hg:PG X tg g)(hs:swapsWithSole [tg] e pos.line X.env=pure false:=by rfl)(hw:swappedStores [tg] e X.env=pure none:=by rfl)
 (h1:(assignEach [tg] X.env).map (·.2)=[assign tg X.env]:=by rfl):PS X (.Assign [tg] e pos) (LR te g):=by
 intro pins s σ H D I h
 refine wpAny_Assign_stores (bK (he pins s σ H _ I h) fun v s1 ⟨x,H1,I1,r1,q1⟩=>?_) hs hw
 rw[h1]
 exact bK (hg pins s1 σ H1 x v _ I1 r1 q1) fun _ s2 q=>q
end
section
variable{X:Cx}{pos:Pos}
def G4(c:TT)(tb:TS):TS:=fun D σ H=>∃W:Nat→St→Hp→Prop,(∃m,W m σ H)∧∀m σ H,W m σ H→
 c σ H fun b H1=>if b=true then∃N:St→Hp→Prop,(∀σ' H',N σ' H'→∃m',m'<m∧W m' σ' H')∧tb {D with nx:=N,ct:=N,bk:=D.nx} σ H1 else D.nx σ H1
theorem Bz{c:Expr}{body:List Stmt}{tc:TT}{tb:TS}(hp:PassesOwn (model X.prog X.w) X.A X.env X.xe)(hc:PT X c tc)(hb:PSs X body tb):PS X (.While c body [] pos) (G4 tc tb):=by
 intro pins s σ H D I h
 obtain⟨W,⟨m0,w0⟩,turn⟩:=h
 refine wpAny_While (codeAny_whileLoop (fun n s'=>∃σ' H',Inv X pins σ' H' s'∧W n σ' H') ?_ m0 ⟨σ,H,I,w0⟩)
 rintro n s1 ⟨σ1,H1,I1,w1⟩
 refine wpAny_passesOwn hp (bK (hc pins s1 σ1 H1 _ I1 (turn n σ1 H1 w1)) fun b s2 ⟨H2,I2,q2⟩=>?_)
 cases b with
 |true=>
  obtain⟨N,hN,q2⟩:=q2
  rw[if_pos rfl]
  refine wpAny_passesOwn hp (bK (hb pins s2 σ1 H2 _ I2 q2) fun f s3 q3=>?_)
  cases f with
  |next=>
   obtain⟨σ3,H3,I3,n3⟩:=q3
   obtain⟨m',hm,w3⟩:=hN σ3 H3 n3
   exact⟨m',hm,σ3,H3,I3,w3⟩
  |cont=>
   obtain⟨σ3,H3,I3,n3⟩:=q3
   obtain⟨m',hm,w3⟩:=hN σ3 H3 n3
   exact⟨m',hm,σ3,H3,I3,w3⟩
  |brk=>exact q3
  |ret v=>exact q3
 |false=>
  rw[if_neg Bool.false_ne_true]
  exact wpAny_execs_nil ⟨σ1,H2,I2,q2⟩
end
structure It where
 go:Nat→Hp→Prop
 yld:Nat→Hp→V→Hp→Prop
 stop:Nat→Hp→Prop
def o8(X:Cx)(pins:List (Addr×Obj))(H:Hp)(b:Addr):Prop:=
 H b=none∧b≠X.env.locals∧b∉X.fs∧(b∈X.ex∨X.s₀.heap.objs.size≤b)∧(∀x c,X.env.cells.lookup x=some c→c≠b)∧∀p∈X.pn++pins,p.1≠b
theorem Inv.fpOk{X:Cx}{pins:List (Addr×Obj)}{σ:St}{H H':Hp}{s:Shared}{b:Addr}(I:Inv X pins σ H s)(hb:s.heap.objs.size≤b)(hn:H' b=none):o8 X pins H' b:=by
 refine⟨hn,Nat.ne_of_gt (Nat.lt_of_lt_of_le I.lt hb),I.nofs hb, .inr (Nat.le_trans I.sz hb),fun x c e z=>?_,fun p hp z=>?_⟩
 ·obtain⟨v,q⟩:=I.cell x c e
  exact absurd (Nat.lt_of_lt_of_le q.lt (by rw[z];exact hb)) (Nat.lt_irrefl _)
 ·exact absurd (Nat.lt_of_lt_of_le (Heap.lt_size (I.pin p hp).1) (by rw[z];exact hb)) (Nat.lt_irrefl _)
structure Turn (P:Program) (w:World) (K:W.Frag) (tg:Expr) (J:It) (fp:List Addr) (it:Addr) (tn:Nat→Heap→Prop):Prop where
 mem:it∈fp
 obj:∀i h,tn i h→∀b∈fp,∃o,h.get? b=some o∧∀v,o.data≠ .cell v
 keep:∀i h h',tn i h→(∀b∈fp,∀o,h.get? b=some o→h'.get? b=some o)→tn i h'
 item:∀(X:Cx),X.prog=P→X.w=w→X.K=K→X.calm=true→∀(i:Nat) (pins:List (Addr×Obj)) (s:Shared) (σ:St) (H:Hp) (E:Value→Shared→Prop),Inv X pins σ H s→(∀b∈fp,o8 X pins H b)→tn i s.heap→J.go i H→
  wpAny (model P w) X.A (pyNext (.ref it)) (fun r s1=>∃u,r=some u∧
   wpAny (model P w) X.A (letOwnedTupleGo tg (.ref it) u) (fun _ s2=>∃x H',Inv X pins σ H' s2∧RelV x u∧J.yld i H x H'∧tn (i+1) s2.heap∧∀b∈fp,H' b=none) E s1) E s
 done:∀(X:Cx),X.prog=P→X.w=w→X.K=K→X.calm=true→∀(i:Nat) (pins:List (Addr×Obj)) (s:Shared) (σ:St) (H:Hp) (E:Value→Shared→Prop),Inv X pins σ H s→(∀b∈fp,o8 X pins H b)→tn i s.heap→J.stop i H→
  wpAny (model P w) X.A (pyNext (.ref it)) (fun r s1=>r=none∧Inv X pins σ H s1) E s
 self:∀(A:Around) (i:Nat) (s:Shared) (Q:Value→Shared→Prop) (E:Value→Shared→Prop),tn i s.heap→Q (.ref it) s→wpAny (model P w) A (pyIter (.ref it)) Q E s
abbrev TI:=St→Hp→(It→Hp→Prop)→Prop
def Md(X:Cx)(pins:List (Addr×Obj))(σ:St)(tg:Expr)(R:It→Hp→Prop)(MY:Value)(s2:Shared):Prop:=
 ∃(it:Addr) (fp:List Addr) (tn:Nat→Heap→Prop) (J:It) (H':Hp),MY= .ref it∧Inv X pins σ H' s2∧Turn X.prog X.w X.K tg J fp it tn∧tn 0 s2.heap∧(∀b∈fp,o8 X pins H' b)∧R J H'
def PI(X:Cx)(tg iter:Expr)(wi:TI):Prop:=
 ∀(pins:List (Addr×Obj)) (s:Shared) (σ:St) (H:Hp) (R:It→Hp→Prop),Inv X pins σ H s→wi σ H R→
  wpAny (model X.prog X.w) X.A (eval iter X.env) (fun v s1=>wpAny (model X.prog X.w) X.A (pyIter v) (Md X pins σ tg R) X.xe s1) X.xe s
theorem pV{M:Model}{A:Around}{E:Value→Shared→Prop}{s:Shared}{tg:Expr}{it:Addr}{u:Value}{o:Obj}{n:String}{vs:Array Value}{Q:Unit→Shared→Prop}(ho:s.heap.get? it=some o)(hc:o.cls= .type n)(hd:o.data= .fields vs)
 (hn:["enumerate","zip","dict_itemiterator","dict_reverseitemiterator","odict_iterator","itertools.zip_longest","itertools.pairwise"].contains n=false)(hQ:Q () s):wpAny M A (letOwnedTupleGo tg (.ref it) u) Q E s:=by
 unfold letOwnedTupleGo
 cases tg<;>first
  |exact wpAny_pure hQ
  |(cases u<;>first
    |exact wpAny_pure hQ
    |(refine wpAny_bind (wpAny_load ho ?_)
      rw[hc,hd]
      show wpAny M A (if (["enumerate","zip","dict_itemiterator","dict_reverseitemiterator","odict_iterator","itertools.zip_longest","itertools.pairwise"].contains n&&vs[0]? ==some (rawInt _))=true then _ else _) Q E s
      rw[if_neg (by intro h;rw[hn,Bool.false_and] at h;cases h)]
      exact wpAny_pure hQ))
def Ks(K:W.Frag)(a:Addr):It:=
 ⟨fun i H=>∃xs x,SqL K H a xs∧xs[i]? =some x,fun i H x H'=>H'=H∧∀xs,SqL K H a xs→xs[i]? =some x,fun i H=>∃xs,SqL K H a xs∧xs.length≤i⟩
def Kt(K:W.Frag)(a:Addr):It:=
 ⟨fun i H=>∃xs x,SqT K H a xs∧xs[i]? =some x,fun i H x H'=>H'=H∧∀xs,SqT K H a xs→xs[i]? =some x,fun i H=>∃xs,SqT K H a xs∧xs.length≤i⟩
def Hl(lo:Int)(n:Nat):It:=⟨fun i _=>i<n,fun i H x H'=>H'=H∧x= .int (lo+i),fun i _=>n≤i⟩
theorem zv{P:Program}{w:World}{K:W.Frag}{tg:Expr}(a it:Addr):Turn P w K tg (Ks K a) [it] it (fun i h=>h.IsListIter it a i) where
 mem:=by simp
 obj:=fun i h st b hb=>by
  have e:b=it:=by simpa using hb
  subst e
  obtain⟨o,e,c,d⟩:=st
  exact⟨o,e,fun v z=>by rw[d] at z;cases z⟩
 keep:=fun i h h' st k=>st.at fun o e=>k it (by simp) o e
 item:=by
  intro X hP hw hK hc i pins s σ H E I hf st hg
  subst hP hw hK
  obtain⟨xs,x,hq,hx⟩:=hg
  obtain⟨aB,rv,p,hz⟩:=I.list hq
  obtain⟨u,hu,ru⟩:=rv.get hx
  obtain⟨f0,f1,f2,f3,f4,f5⟩:=hf it (by simp)
  refine wpAny_pyNext_list_item st p.isList (x:=u) (by simpa using hu) fun h' oM sb=>?_
  have I1:Inv X pins σ H {s with heap:=h'}:=I.turned (t':=s.toks) (fun b o hb e=>(sb.2 b hb).trans e) f0 f1 f3 f4 f5
  obtain⟨o,e,c,d⟩:=id oM
  exact⟨u,rfl,pV (s:={s with heap:=h'}) e c d (by decide) ⟨x,H,I1,ru,⟨rfl,fun ys hy=>by rw[I.list_inj hy hq];exact hx⟩,oM,fun b hb=>(hf b hb).1⟩⟩
 done:=by
  intro X hP hw hK hc i pins s σ H E I hf st hg
  subst hP hw hK
  obtain⟨xs,hq,hx⟩:=hg
  obtain⟨aB,rv,p,hz⟩:=I.list hq
  obtain⟨f0,f1,f2,f3,f4,f5⟩:=hf it (by simp)
  have hl:=rv.length
  exact wpAny_pyNext_list_end (I.ok.hd hc) st p.isList (by simp;omega) fun h' eb=>⟨rfl,I.turned (t':=s.toks) (fun b o hb e=>eb b o hb e) f0 f1 f3 f4 f5⟩
 self:=fun _ _ _ _ _ st h=>wpAny_pyIter_listiter st h
theorem wL{P:Program}{w:World}{K:W.Frag}{tg:Expr}(a it:Addr):Turn P w K tg (Kt K a) [it] it (fun i h=>h.IsTupleIter it a i) where
 mem:=by simp
 obj:=fun i h st b hb=>by
  have e:b=it:=by simpa using hb
  subst e
  obtain⟨o,e,c,d⟩:=st
  exact⟨o,e,fun v z=>by rw[d] at z;cases z⟩
 keep:=fun i h h' st k=>st.at fun o e=>k it (by simp) o e
 item:=by
  intro X hP hw hK hc i pins s σ H E I hf st hg
  subst hP hw hK
  obtain⟨xs,x,hq,hx⟩:=hg
  obtain⟨aB,rv,p,hz⟩:=I.tuple hq
  obtain⟨u,hu,ru⟩:=rv.get hx
  obtain⟨f0,f1,f2,f3,f4,f5⟩:=hf it (by simp)
  refine wpAny_pyNext_tuple_item st (show s.heap.IsTuple a aB.toArray from p) (x:=u) (by simpa using hu) fun h' oM sb=>?_
  have I1:Inv X pins σ H {s with heap:=h'}:=I.turned (t':=s.toks) (fun b o hb e=>(sb.2 b hb).trans e) f0 f1 f3 f4 f5
  obtain⟨o,e,c,d⟩:=id oM
  exact⟨u,rfl,pV (s:={s with heap:=h'}) e c d (by decide) ⟨x,H,I1,ru,⟨rfl,fun ys hy=>by rw[I.tuple_inj hy hq];exact hx⟩,oM,fun b hb=>(hf b hb).1⟩⟩
 done:=by
  intro X hP hw hK hc i pins s σ H E I hf st hg
  subst hP hw hK
  obtain⟨xs,hq,hx⟩:=hg
  obtain⟨aB,rv,p,hz⟩:=I.tuple hq
  obtain⟨f0,f1,f2,f3,f4,f5⟩:=hf it (by simp)
  have hl:=rv.length
  exact wpAny_pyNext_tuple_end (I.ok.hd hc) st (show s.heap.IsTuple a aB.toArray from p) (by simp;omega) fun h' eb=>⟨rfl,I.turned (t':=s.toks) (fun b o hb e=>eb b o hb e) f0 f1 f3 f4 f5⟩
 self:=fun _ _ _ _ _ st h=>wpAny_pyIter_tupleiter st h
theorem wK{P:Program}{w:World}{K:W.Frag}{tg:Expr}(it:Addr)(lo:Int)(n:Nat):Turn P w K tg (Hl lo n) [it] it (fun i h=>IsRangeIter h it (lo+(i:Nat)*1) ((n:Int) - (i:Nat)) 1) where
 mem:=by simp
 obj:=fun i h st b hb=>by
  have e:b=it:=by simpa using hb
  subst e
  exact⟨_,st,fun v z=>by
   have z':Data.fields _=Data.cell v:=z
   cases z'⟩
 keep:=fun i h h' st k=>k it (by simp) _ st
 item:=by
  intro X hP hw hK hc i pins s σ H E I hf st hg
  subst hP hw hK
  obtain⟨f0,f1,f2,f3,f4,f5⟩:=hf it (by simp)
  have W:=Walks.range (prog:=X.prog) (w:=X.w) (I.ok.hd hc) it lo 1 n
  refine W.item i s _ _ hg st fun v h' tk hv oM kk=>?_
  obtain⟨t,rfl⟩:=hv
  have I1:Inv X pins σ H {s with heap:=h',toks:=tk}:=I.turned (fun b o hb e=>kk b o (by simpa using hb) e) f0 f1 f3 f4 f5
  refine⟨_,rfl,pV (s:={s with heap:=h',toks:=tk}) (n:="range_iterator") oM rfl rfl (by decide) ⟨.int (lo+i),H,I1,⟨t,?_⟩,⟨rfl,rfl⟩,oM,fun b hb=>(hf b hb).1⟩⟩
  rw[Int.mul_one]
 done:=by
  intro X hP hw hK hc i pins s σ H E I hf st hg
  subst hP hw hK
  obtain⟨f0,f1,f2,f3,f4,f5⟩:=hf it (by simp)
  exact wpAny_pyNext_range_end (I.ok.hd hc) st (by have:n≤i:=hg;omega) fun h' eb=>⟨rfl,I.turned (t':=s.toks) (fun b o hb e=>eb b o hb e) f0 f1 f3 f4 f5⟩
 self:=fun _ _ _ _ _ st h=>wpAny_pyIter_rangeiter st h
section
variable{X:Cx}{tg:Expr}
def IH(K:W.Frag)(tl:TE):TI:=fun σ H R=>tl σ H fun x H1=>∃a,x= .ref a∧(∃xs,SqL K H1 a xs)∧R (Ks K a) H1
def Lu(K:W.Frag)(tl:TE):TI:=fun σ H R=>tl σ H fun x H1=>∃a,x= .ref a∧(∃xs,SqT K H1 a xs)∧R (Kt K a) H1
theorem DP{l:Expr}{tl:TE}(hl:PE X l tl):PI X tg l (IH X.K tl):=by
 intro pins s σ H R I h
 refine bK (hl pins s σ H _ I h) fun v s1 ⟨x,H1,I1,r1,q1⟩=>?_
 obtain⟨a,e,⟨xs,hq⟩,q⟩:=q1
 subst e
 cases r1
 obtain⟨aB,rv,p,hz⟩:=I1.list hq
 refine wpAny_pyIter_list p.isList ?_
 refine⟨s1.heap.objs.size,[s1.heap.objs.size],_,_,H1,rfl,I1.kept (t':=s1.toks) fun b o e=>Heap.get?_push_of_some _ e,zv a _,⟨_,Heap.get?_push_size _ rfl,rfl,rfl⟩,fun b hb=>?_,q⟩
 have e:b=s1.heap.objs.size:=by simpa using hb
 subst e
 exact I1.fpOk (Nat.le_refl _) (I1.hok.fresh (Nat.le_refl _))
theorem GA{l:Expr}{tl:TE}(hl:PE X l tl):PI X tg l (Lu X.K tl):=by
 intro pins s σ H R I h
 refine bK (hl pins s σ H _ I h) fun v s1 ⟨x,H1,I1,r1,q1⟩=>?_
 obtain⟨a,e,⟨xs,hq⟩,q⟩:=q1
 subst e
 cases r1
 obtain⟨aB,rv,p,hz⟩:=I1.tuple hq
 refine wpAny_pyIter_tuple (show s1.heap.IsTuple a aB.toArray from p) ?_
 refine⟨s1.heap.objs.size,[s1.heap.objs.size],_,_,H1,rfl,I1.kept (t':=s1.toks) fun b o e=>Heap.get?_push_of_some _ e,wL a _,⟨_,Heap.get?_push_size _ rfl,rfl,rfl⟩,fun b hb=>?_,q⟩
 have e:b=s1.heap.objs.size:=by simpa using hb
 subst e
 exact I1.fpOk (Nat.le_refl _) (I1.hok.fresh (Nat.le_refl _))
theorem uE{pins:List (Addr×Obj)}{σ:St}{H:Hp}{s:Shared}{R:It→Hp→Prop}{E:Value→Shared→Prop}{lo hi:Int}{t u v:Tok}{tk:Nat}(I:Inv X pins σ H s)(h1: -(2 ^ 62)≤lo)(h2:lo<2 ^ 62)(h3: -(2 ^ 62)≤hi)(h4:hi<2 ^ 62)
 (q:R (Hl lo (hi - lo).toNat) H):wpAny (model X.prog X.w) X.A (pyIter (.ref s.heap.objs.size)) (Md X pins σ tg R) E {s with heap:=s.heap.push {cls:= .type "range",data:= .fields #[.int lo t, .int hi u, .int 1 v]},toks:=tk}:=by
 refine wpAny_pyIter_range (IsRange.new ..) (small_one h1 h2 h3 h4) ?_
 have I1:Inv X pins σ H {s with heap:=s.heap.push {cls:= .type "range",data:= .fields #[.int lo t, .int hi u, .int 1 v]},toks:=tk}:=I.kept fun b o e=>Heap.get?_push_of_some _ e
 refine⟨(s.heap.push {cls:= .type "range",data:= .fields #[.int lo t, .int hi u, .int 1 v]}).objs.size,[(s.heap.push {cls:= .type "range",data:= .fields #[.int lo t, .int hi u, .int 1 v]}).objs.size],_,_,H,rfl,
  I1.kept (t':=tk) fun b o e=>Heap.get?_push_of_some _ e,wK _ lo (hi - lo).toNat,?_,fun b hb=>?_,q⟩
 ·have e1:lo+((0:Nat):Int)*1=lo:=by simp
  have e2:(((hi - lo).toNat:Nat):Int) - ((0:Nat):Int)=Builtin.Range.rangeSize lo hi 1:=by rw[rangeSize_one];split<;>omega
  show IsRangeIter _ _ (lo+((0:Nat):Int)*1) ((((hi - lo).toNat:Nat):Int) - ((0:Nat):Int)) 1
  rw[e1,e2]
  exact Heap.get?_push_size _ rfl
 ·have e:b=(s.heap.push {cls:= .type "range",data:= .fields #[.int lo t, .int hi u, .int 1 v]}).objs.size:=by simpa using hb
  subst e
  exact I1.fpOk (Nat.le_refl _) (I1.hok.fresh (Nat.le_refl _))
def II(ta:TA):TI:=fun σ H R=>ta σ H fun vs H1=>∃j:Int,vs=[.int j]∧ -(2 ^ 62)≤j∧j<2 ^ 62∧R (Hl 0 j.toNat) H1
def IJ(ta:TA):TI:=fun σ H R=>ta σ H fun vs H1=>∃i j:Int,vs=[.int i, .int j]∧(-(2 ^ 62)≤i∧i<2 ^ 62∧ -(2 ^ 62)≤j∧j<2 ^ 62)∧R (Hl i (j - i).toNat) H1
theorem ze{a:Expr}{ta:TA}{p pos:Pos}(hg:Gl X "range")(hm:X.mg "range"=none)(ha:PA X [a] ta)(hs:starEach [a] X.env=[(false,eval a X.env)]:=by rfl):PI X tg (.Call (.Name "range" p) [a] [] pos) (II ta):=by
 intro pins s σ H R I h
 refine Call_ (jt I hg hm boot_range (PyProof.Rows.callWith_type1 (bK (ha pos pins s σ H _ I h) fun us s1 ⟨vs,H1,I1,r1,q1⟩=>?_) hs rfl))
 obtain⟨j,e,q1,q2,q⟩:=q1
 subst e
 cases r1 with
 |cons r rr=>
  cases rr
  obtain⟨t,rfl⟩:=r
  exact call_range_1 (uE I1 (by omega) (by omega) q1 q2 (by simpa using q))
theorem zf{a b:Expr}{ta:TA}{p pos:Pos}(hg:Gl X "range")(hm:X.mg "range"=none)(ha:PA X [a,b] ta)(hs:starEach [a,b] X.env=[(false,eval a X.env),(false,eval b X.env)]:=by rfl)(Ka:starEach [b] X.env=[(false,eval b X.env)]:=by rfl):
 PI X tg (.Call (.Name "range" p) [a,b] [] pos) (IJ ta):=by
 intro pins s σ H R I h
 refine Call_ (jt I hg hm boot_range (PyProof.Rows.callWith_type1 (bK (ha pos pins s σ H _ I h) fun us s1 ⟨vs,H1,I1,r1,q1⟩=>?_) (by rw[hs,Ka]) (by rw[Ka];rfl)))
 obtain⟨i,j,e,⟨q1,q2,q3,q4⟩,q⟩:=q1
 subst e
 cases r1 with
 |cons r rr=>
  cases rr with
  |cons r' rr=>
   cases rr
   obtain⟨t,rfl⟩:=r
   obtain⟨t',rfl⟩:=r'
   exact call_range_2 (uE I1 q1 q2 q3 q4 q)
def LX(wi:TI)(g:TG)(tb:TS):TS:=fun D σ H=>wi σ H fun J H1=>∃W:Nat→Nat→St→Hp→Prop,(∃m,W 0 m σ H1)∧∀i m σ H,W i m σ H→
 (J.stop i H∧D.nx σ H)∨(J.go i H∧∃N:St→Hp→Prop,(∀σ' H',N σ' H'→∃m',m'<m∧W (i+1) m' σ' H')∧∀x H',J.yld i H x H'→g x σ H' fun σ2 H2=>tb {D with nx:=N,ct:=N,bk:=D.nx} σ2 H2)
def ot(fp:List Addr)(h:Heap):List (Addr×Obj):=fp.filterMap fun b=>(h.get? b).map fun o=>(b,o)
theorem gu{fp:List Addr}{h:Heap}{b:Addr}{o:Obj}(hb:b∈fp)(e:h.get? b=some o):(b,o)∈ot fp h:=List.mem_filterMap.mpr ⟨b,hb,by rw[e];rfl⟩
theorem yW{fp:List Addr}{h:Heap}{p:Addr×Obj}(hp:p∈ot fp h):p.1∈fp∧h.get? p.1=some p.2:=by
 obtain⟨b,hb,e⟩:=List.mem_filterMap.mp hp
 cases q:h.get? b with
 |none=>rw[q] at e;cases e
 |some o=>
  rw[q] at e
  have e':(b,o)=p:=Option.some.inj e
  subst e'
  exact⟨hb,q⟩
theorem Inv.pinned{pins:List (Addr×Obj)}{σ:St}{H:Hp}{s:Shared}{fp:List Addr}(I:Inv X pins σ H s)(hf:∀b∈fp,o8 X pins H b)(ho:∀b∈fp,∃o,s.heap.get? b=some o∧∀v,o.data≠ .cell v):Inv X (pins++ot fp s.heap) σ H s:=
 I.pins_of fun p hp=>(List.mem_append.mp hp).elim (fun z=>I.pin p (List.mem_append_right _ z)) fun z=>by
  obtain⟨hb,e⟩:=yW z
  obtain⟨f0,f1,f2,_⟩:=hf p.1 hb
  obtain⟨o,e',d⟩:=ho p.1 hb
  rw[e] at e';cases e'
  exact⟨e,f0,f1,f2,d⟩
theorem Inv.unpinned{pins pl:List (Addr×Obj)}{σ:St}{H:Hp}{s:Shared}(I:Inv X (pins++pl) σ H s):Inv X pins σ H s:=I.pins_of fun p hp=>I.pin p (List.mem_append_right _ (List.mem_append_left _ hp))
theorem GC{iter:Expr}{body:List Stmt}{wi:TI}{g:TG}{tb:TS}{pos:Pos}(hp:PassesOwn (model X.prog X.w) X.A X.env X.xe)(hc:X.calm=true)(hi:PI X tg iter wi)(hg:PG X tg g)(hb:PSs X body tb)
 (hs:∀x,foldedSetIterable iter X.env x=pure x:=by intro _;rfl):PS X (.For tg iter body [] pos) (LX wi g tb):=by
 intro pins s σ H D I h
 refine wpAny_For (bK (hi pins s σ H _ I h) fun v s1 h1=>bK h1 fun MY s2 h2=>?_) hs
 obtain⟨it,fp,tn,J,H2,e,I2,T,wG,f2,W,⟨m0,w0⟩,turn⟩:=h2
 subst e
 have GZ:∀{H':Hp},(∀b∈fp,H' b=none)→∀b∈fp,o8 X pins H' b:=fun hn b hb=>⟨hn b hb,(f2 b hb).2⟩
 refine codeAny_forLoop_any (fun n s'=>∃i σ' H',Inv X pins σ' H' s'∧tn i s'.heap∧(∀b∈fp,H' b=none)∧W i n σ' H') ?_ m0 ⟨0,σ,H2,I2,wG,fun b hb=>(f2 b hb).1,w0⟩
 rintro n s3 ⟨i,σ3,H3,I3,Hg,JW,w3⟩
 rcases turn i n σ3 H3 w3 with⟨stop,qn⟩ | ⟨go,N,hN,step⟩
 ·refine wpAny_passesOwn hp (bK (T.done X rfl rfl rfl hc i pins s3 σ3 H3 X.xe I3 (GZ JW) Hg stop) fun r s4 ⟨hr,I4⟩=>?_)
  subst hr
  exact wpAny_execs_nil ⟨σ3,H3,I4,qn⟩
 ·refine wpAny_passesOwn hp (bK (T.item X rfl rfl rfl hc i pins s3 σ3 H3 X.xe I3 (GZ JW) Hg go) fun r s4 ⟨u,hr,h4⟩=>?_)
  subst hr
  refine wpAny_passesOwn hp (bK h4 fun _ s5 ⟨x,H5,I5,r5,y5,LP,Nr⟩=>?_)
  have I5':=I5.pinned (GZ Nr) (T.obj _ _ LP)
  refine wpAny_passesOwn hp (bK (hg _ s5 σ3 H5 x u _ I5' r5 (step x H5 y5)) fun _ s6 ⟨σ6,H6,I6,q6⟩=>?_)
  refine wpAny_passesOwn hp (bK (hb _ s6 σ6 H6 _ I6 q6) fun f s7 q7=>?_)
  have again:∀{σ7:St}{H7:Hp},Inv X (pins++ot fp s5.heap) σ7 H7 s7→N σ7 H7→∃m,m<n∧∃i σ' H',Inv X pins σ' H' s7∧tn i s7.heap∧(∀b∈fp,H' b=none)∧W i m σ' H':=fun {σ7 H7} I7 n7=>by
   obtain⟨m',hm,w7⟩:=hN σ7 H7 n7
   refine⟨m',hm,i+1,σ7,H7,I7.unpinned,T.keep _ _ _ LP fun b hb o e=>(I7.pin (b,o) (List.mem_append_right _ (List.mem_append_right _ (gu hb e)))).1,fun b hb=>?_,w7⟩
   obtain⟨o,e,d⟩:=T.obj _ _ LP b hb
   exact(I7.pin (b,o) (List.mem_append_right _ (List.mem_append_right _ (gu hb e)))).2.1
  cases f with
  |next=>obtain⟨σ7,H7,I7,n7⟩:=q7;exact again I7 n7
  |cont=>obtain⟨σ7,H7,I7,n7⟩:=q7;exact again I7 n7
  |brk=>obtain⟨σ7,H7,I7,q7⟩:=q7;exact⟨σ7,H7,I7.unpinned,q7⟩
  |ret v=>obtain⟨x7,σ7,H7,I7,r7,q7⟩:=q7;exact⟨x7,σ7,H7,I7.unpinned,r7,q7⟩
end
abbrev R2:=V→V→Hp→VK→Prop
def OpR(X:Cx)(f:Value→Value→Sem Value)(r:R2):Prop:=
 ∀(pins:List (Addr×Obj)) (s:Shared) (σ:St) (H:Hp) (x y:V) (v u:Value) (Q:VK),Inv X pins σ H s→RelV x v→RelV y u→r x y H Q→
  wpAny (model X.prog X.w) X.A (f v u) (EP X pins σ Q) X.xe s
def Kx(X:Cx)(f:Value→Sem Value)(r:V→Hp→VK→Prop):Prop:=
 ∀(pins:List (Addr×Obj)) (s:Shared) (σ:St) (H:Hp) (x:V) (v:Value) (Q:VK),Inv X pins σ H s→RelV x v→r x H Q→
  wpAny (model X.prog X.w) X.A (f v) (EP X pins σ Q) X.xe s
def CallR(X:Cx)(f:Value)(r:List V→Hp→VK→Prop):Prop:=
 ∀(pins:List (Addr×Obj)) (s:Shared) (σ:St) (H:Hp) (xs:List V) (us:List Value) (Q:VK),Inv X pins σ H s→Vals xs us→r xs H Q→
  wpAny (model X.prog X.w) X.A (call f us) (EP X pins σ Q) X.xe s
def Kw(X:Cx)(r:V→Hp→(Bool→Hp→Prop)→Prop):Prop:=
 ∀(pins:List (Addr×Obj)) (s:Shared) (σ:St) (H:Hp) (x:V) (v:Value) (Q:Bool→Hp→Prop),Inv X pins σ H s→RelV x v→r x H Q→
  wpAny (model X.prog X.w) X.A (truthy v) (TP X pins σ Q) X.xe s
def JG(r:R2)(ta tb:TE):TE:=fun σ H Q=>ta σ H fun x H1=>tb σ H1 fun y H2=>r x y H2 Q
def OW(r:V→Hp→VK→Prop)(ta:TE):TE:=fun σ H Q=>ta σ H fun x H1=>r x H1 Q
def rI(C:Int→Int→Prop)(g:Int→Int→V):R2:=fun x y H Q=>∃i j,x= .int i∧y= .int j∧C i j∧Q (g i j) H
def wu(g:Int→Int→V):R2:=fun x y H Q=>∃i j,x= .int i∧y= .int j∧Q (g i j) H
def rU(g:Int→V):V→Hp→VK→Prop:=fun x H Q=>∃i,x= .int i∧Q (g i) H
section
variable{X:Cx}{a b c:Expr}{ta tb tc:TE}{pos:Pos}
theorem Fe(ha:PE X a ta)(hb:PE X b tb){pins:List (Addr×Obj)}{s:Shared}{σ:St}{H:Hp}{R:V→V→Hp→Prop}(I:Inv X pins σ H s)
 (h:ta σ H fun x H1=>tb σ H1 fun y H2=>R x y H2){Q:Value→Shared→Prop}{f:Value→Value→Sem Value}
 (hf:∀v u s2 x y H2,Inv X pins σ H2 s2→RelV x v→RelV y u→R x y H2→wpAny (model X.prog X.w) X.A (f v u) Q X.xe s2):
 wpAny (model X.prog X.w) X.A (eval a X.env) (fun v s₁=>wpAny (model X.prog X.w) X.A (eval b X.env) (fun u s₂=>wpAny (model X.prog X.w) X.A (f v u) Q X.xe s₂) X.xe s₁) X.xe s:=by
 refine bK (ha pins s σ H _ I h) fun v s1 ⟨x,H1,I1,r1,q1⟩=>?_
 refine bK (hb pins s1 σ H1 _ I1 q1) fun u s2 ⟨y,H2,I2,r2,q2⟩=>?_
 exact hf v u s2 x y H2 I2 r1 r2 q2
theorem Jj{op:Operator}{r:R2}(ho:OpR X (binaryOp op) r)(ha:PE X a ta)(hb:PE X b tb):PE X (.BinOp a op b pos) (JG r ta tb):=by
 intro pins s σ H Q I h
 exact wpAny_BinOp (Fe ha hb I h fun v u s2 x y H2 I2 rx ry q=>ho pins s2 σ H2 x y v u Q I2 rx ry q)
theorem Jk{op:UnaryOp}{r:V→Hp→VK→Prop}(ho:Kx X (unaryOp op) r)(ha:PE X a ta):PE X (.UnaryOp op a pos) (OW r ta):=by
 intro pins s σ H Q I h
 exact UnaryOp_ (bK (ha pins s σ H _ I h) fun v s1 ⟨x,H1,I1,r1,q1⟩=>ho pins s1 σ H1 x v Q I1 r1 q1)
theorem LG{f:Value→Value→Sem Value}{C:Int→Int→Prop}{g:Int→Int→Int}
 (rule:∀(i j:Int) (t u:Tok) (s:Shared) (Q:Value→Shared→Prop) (E:Value→Shared→Prop),C i j→Q (.int (g i j) s.toks) {s with toks:=s.toks+1}→wpAny (model X.prog X.w) X.A (f (.int i t) (.int j u)) Q E s):
 OpR X f (rI C fun i j=> .int (g i j)):=by
 intro pins s σ H x y v u Q I rx ry h
 obtain⟨i,j,rfl,rfl,hc,q⟩:=h
 obtain⟨t,rfl⟩:=rx
 obtain⟨t',rfl⟩:=ry
 exact rule i j t t' s _ _ hc ⟨.int (g i j),H,I.tok _,⟨_,rfl⟩,q⟩
theorem I_{f:Value→Value→Sem Value}{g:Int→Int→Int}
 (rule:∀(i j:Int) (t u:Tok) (s:Shared) (Q:Value→Shared→Prop) (E:Value→Shared→Prop),Q (.int (g i j) s.toks) {s with toks:=s.toks+1}→wpAny (model X.prog X.w) X.A (f (.int i t) (.int j u)) Q E s):
 OpR X f (wu fun i j=> .int (g i j)):=by
 intro pins s σ H x y v u Q I rx ry h
 obtain⟨i,j,rfl,rfl,q⟩:=h
 obtain⟨t,rfl⟩:=rx
 obtain⟨t',rfl⟩:=ry
 exact rule i j t t' s _ _ ⟨.int (g i j),H,I.tok _,⟨_,rfl⟩,q⟩
theorem Dk{f:Value→Value→Sem Value}{g:Int→Int→Bool}
 (rule:∀(i j:Int) (t u:Tok) (s:Shared) (Q:Value→Shared→Prop) (E:Value→Shared→Prop),Q (.bool (g i j)) s→wpAny (model X.prog X.w) X.A (f (.int i t) (.int j u)) Q E s):
 OpR X f (wu fun i j=> .bl (g i j)):=by
 intro pins s σ H x y v u Q I rx ry h
 obtain⟨i,j,rfl,rfl,q⟩:=h
 obtain⟨t,rfl⟩:=rx
 obtain⟨t',rfl⟩:=ry
 exact rule i j t t' s _ _ ⟨.bl (g i j),H,I,rfl,q⟩
def Hi(i j:Int):Prop:=0<j∧j<1073741824
def CMul(i j:Int):Prop:=(-(2 ^ 64)<i∧i<2 ^ 64)∨(-(2 ^ 64)<j∧j<2 ^ 64)
theorem CMul.ok{i j:Int}(h:CMul i j):IntMulOk i j:=by
 rcases h with⟨h1,h2⟩ | ⟨h1,h2⟩
 ·exact .of_left (intBits_le_64 h1 h2)
 ·exact .of_right (intBits_le_64 h1 h2)
theorem Ga:OpR X (binaryOp .Add) (wu fun i j=> .int (i+j)):=I_ fun _ _ _ _ _ _ _ q=>add_int q
theorem Gg:OpR X (binaryOp .Sub) (wu fun i j=> .int (i - j)):=I_ fun _ _ _ _ _ _ _ q=>sub_int q
theorem Ge:OpR X (binaryOp .Mult) (rI CMul fun i j=> .int (i*j)):=LG fun _ _ _ _ _ _ _ hc q=>mul_int q hc.ok
theorem Dm:OpR X (binaryOp .FloorDiv) (rI Hi fun i j=> .int (i / j)):=LG fun i j _ _ _ _ _ hc q=>by
 have h1:(0:Int)<j:=hc.1
 have h2:j<1073741824:=hc.2
 exact floordiv_int (by omega) (by rw[Int.fdiv_eq_ediv_of_nonneg i (by omega)];exact q) (.inl (PyProof.noPylong_small (by omega)))
theorem Gd:OpR X (binaryOp .Mod) (rI (fun _ j=>0<j) fun i j=> .int (i % j)):=LG fun i j _ _ _ _ _ hc q=>by
 have h1:(0:Int)<j:=hc
 exact mod_int' (by omega) (by rw[Int.fmod_eq_emod_of_nonneg i (by omega)];exact q)
theorem OX{f:Value→Sem Value}{g:Int→Int}
 (rule:∀(i:Int) (t:Tok) (s:Shared) (Q:Value→Shared→Prop) (E:Value→Shared→Prop),Q (.int (g i) s.toks) {s with toks:=s.toks+1}→wpAny (model X.prog X.w) X.A (f (.int i t)) Q E s):
 Kx X f (rU fun i=> .int (g i)):=by
 intro pins s σ H x v Q I rx h
 obtain⟨i,rfl,q⟩:=h
 obtain⟨t,rfl⟩:=rx
 exact rule i t s _ _ ⟨.int (g i),H,I.tok _,⟨_,rfl⟩,q⟩
theorem G7:Kx X (unaryOp .USub) (rU fun i=> .int (-i)):=OX fun _ _ _ _ _ q=>neg_int q
end
section
variable{X:Cx}{a b c:Expr}{ta tb tc:TE}{pos:Pos}
theorem z8{pins:List (Addr×Obj)}{σ:St}{H:Hp}{s:Shared}{Q:VK}{k k':Bool}(I:Inv X pins σ H s)(q:Q (.bl k) H)(e:k=k'):EP X pins σ Q (.bool k') s:=by
 subst e
 exact⟨.bl k,H,I,rfl,q⟩
theorem A7:OpR X (compareOp .Lt) (wu fun i j=> .bl (decide (i<j))):=Dk fun _ _ _ _ _ _ _ q=>lt_int q
theorem lW:OpR X (compareOp .LtE) (wu fun i j=> .bl (decide (i≤j))):=Dk fun _ _ _ _ _ _ _ q=>le_int q
theorem Jb:OpR X (compareOp .Gt) (wu fun i j=> .bl (decide (j<i))):=Dk fun _ _ _ _ _ _ _ q=>gt_int q
theorem Ja:OpR X (compareOp .GtE) (wu fun i j=> .bl (decide (j≤i))):=Dk fun _ _ _ _ _ _ _ q=>ge_int q
theorem y0:OpR X (compareOp .In) (fun x y H Q=>∃i j,x= .str i∧y= .str j∧Q (.bl (!(Builtin.Str.occurrences j i 0 j.length 1).isEmpty)) H):=by
 intro pins s σ H x y v u Q I rx ry h
 obtain⟨i,j,rfl,rfl,q⟩:=h
 obtain⟨t,rfl⟩:=rx
 obtain⟨t',rfl⟩:=ry
 exact in_str (z8 I q rfl)
theorem Dp:OpR X (compareOp .IsNot) (fun x y H Q=>y= .non∧Q (.bl (!decide (x= .non))) H):=by
 intro pins s σ H x y v u Q I rx ry h
 obtain⟨rfl,q⟩:=h
 cases ry
 refine isnot_none_gen (z8 I q ?_)
 cases x<;>first
  |(cases rx;rfl)
  |(obtain ⟨t,rfl⟩:=rx;rfl)
theorem OpR.or{f:Value→Value→Sem Value}{r r':R2}(h:OpR X f r)(h':OpR X f r'):OpR X f (fun x y H Q=>r x y H Q∨r' x y H Q):=by
 intro pins s σ H x y v u Q I rx ry q
 rcases q with q | q
 ·exact h pins s σ H x y v u Q I rx ry q
 ·exact h' pins s σ H x y v u Q I rx ry q
theorem AZ(b:Expr){op:CmpOp}(h:op≠ .In:=by decide)(h2:op≠ .NotIn:=by decide):behindInMarks op b=false:=by
 have e1:(op==CmpOp.In)=false:=by cases op<;>first | rfl | exact absurd rfl h
 have e2:(op==CmpOp.NotIn)=false:=by cases op<;>first | rfl | exact absurd rfl h2
 cases b<;>simp[behindInMarks,e1,e2]
theorem DL{op:CmpOp}{r:R2}(ho:OpR X (compareOp op) r)(ha:PE X a ta)(hb:PE X b tb)(hm:behindInMarks op b=false):PE X (.Compare a [op] [b] pos) (JG r ta tb):=by
 intro pins s σ H Q I h
 exact wpAny_Compare1 (Fe ha hb I h fun v u s2 x y H2 I2 rx ry q=>ho pins s2 σ H2 x y v u Q I2 rx ry q) hm
def E7(t:TE):TT:=fun σ H Q=>t σ H fun x H'=>∃k,x= .bl k∧Q k H'
theorem D0{op:CmpOp}{r:R2}(ho:OpR X (compareOp op) r)(ha:PE X a ta)(hb:PE X b tb)(hm:behindInMarks op b=false):PT X (.Compare a [op] [b] pos) (E7 (JG r ta tb)):=by
 intro pins s σ H Q I h
 refine wpAny_isTrue_Compare1 (bK (ha pins s σ H _ I h) fun v s1 ⟨x,H1,I1,r1,q1⟩=>bK (hb pins s1 σ H1 _ I1 q1) fun u s2 ⟨y,H2,I2,r2,q2⟩=>
  bK (ho pins s2 σ H2 x y v u _ I2 r1 r2 q2) fun c s3 ⟨z,H3,I3,r3,k,e,q3⟩=>?_) hm
 subst e
 cases r3
 exact wpAny_truthy_bool ⟨H3,I3,q3⟩
def wH(r r':R2)(ta tb tc:TE):TE:=fun σ H Q=>ta σ H fun x H1=>tb σ H1 fun y H2=>r x y H2 fun z H3=>∃k,z= .bl k∧
 (if k=true then tc σ H3 fun w' H4=>r' y w' H4 Q else Q (.bl false) H3)
theorem Br{op wb:CmpOp}{r r':R2}(ho:OpR X (compareOp op) r)(pW:OpR X (compareOp wb) r')(ha:PE X a ta)(hb:PE X b tb)(hc:PE X c tc)
 (hm:lastMarks [op,wb] [b,c]=false:=by with_unfolding_all rfl):PE X (.Compare a [op,wb] [b,c] pos) (wH r r' ta tb tc):=by
 intro pins s σ H Q I h
 refine Compare_chain (bK (ha pins s σ H _ I h) fun v s1 ⟨x,H1,I1,r1,q1⟩=>chain_link (bK (hb pins s1 σ H1 _ I1 q1) fun u s2 ⟨y,H2,I2,r2,q2⟩=>
  bK (ho pins s2 σ H2 x y v u _ I2 r1 r2 q2) fun d s3 ⟨z,H3,I3,r3,k,e,q3⟩=>?_)) hm
 subst e
 cases r3
 refine wpAny_truthy_bool ?_
 cases k with
 |false=>exact ite_ff ⟨.bl false,H3,I3,rfl,q3⟩
 |true=>exact ite_tt (chain_last (bK (hc pins s3 σ H3 _ I3 q3) fun w' s4 ⟨z',H4,I4,r4,q4⟩=>pW pins s4 σ H4 y z' u w' Q I4 r2 r4 q4))
theorem BC{op wb:CmpOp}{r r':R2}(ho:OpR X (compareOp op) r)(pW:OpR X (compareOp wb) r')(ha:PE X a ta)(hb:PE X b tb)(hc:PE X c tc)
 (hm:lastMarks [op,wb] [b,c]=false:=by with_unfolding_all rfl):PT X (.Compare a [op,wb] [b,c] pos) (E7 (wH r r' ta tb tc)):=by
 intro pins s σ H Q I h
 refine isTrue_chain (bK (ha pins s σ H _ I h) fun v s1 ⟨x,H1,I1,r1,q1⟩=>test_link (bK (hb pins s1 σ H1 _ I1 q1) fun u s2 ⟨y,H2,I2,r2,q2⟩=>
  bK (ho pins s2 σ H2 x y v u _ I2 r1 r2 q2) fun d s3 ⟨z,H3,I3,r3,k,e,q3⟩=>?_)) hm
 subst e
 cases r3
 refine wpAny_truthy_bool ?_
 cases k with
 |false=>
  obtain⟨k',e',q'⟩:=q3
  cases e'
  exact ite_ff ⟨H3,I3,q'⟩
 |true=>
  refine ite_tt (test_last (bK (hc pins s3 σ H3 _ I3 q3) fun w' s4 ⟨z',H4,I4,r4,q4⟩=>bK (pW pins s4 σ H4 y z' u w' _ I4 r2 r4 q4) fun d' s5 ⟨z2,H5,I5,r5,k2,e2,q5⟩=>?_))
  subst e2
  cases r5
  exact wpAny_truthy_bool ⟨H5,I5,q5⟩
def Ho(K:W.Frag)(x:V)(H:Hp)(k:Bool):Prop:=
 match x with
 | .non=>k=false
 | .bl b=>k=b
 | .int i=>k=(i !=0)
 | .str y=>y.length≤sizeLine∧k=((y.length:Int) !=0)
 | .byt y=>y.size≤sizeLine∧k=((y.size:Int) !=0)
 | .ref p=>(∃xs,SqL K H p xs∧k=!xs.isEmpty)∨(∃xs,SqT K H p xs∧k=!xs.isEmpty)∨∃aw,H p=some (.dK aw)∧k=!aw.isEmpty
 |_=>False
theorem vN{κ:Type}{aw:List (κ×V)}{vs:List (κ×Value)}(r:KV aw vs):(!vs.isEmpty)=!aw.isEmpty:=by
 cases r<;>rfl
theorem nA{xs:List V}{aB:List Value}(r:Vals xs aB):(!aB.toArray.isEmpty)=!xs.isEmpty:=by
 cases r<;>simp
theorem kJ:(sizeLine:Nat)<2 ^ 63:=by rw[sizeLine_eq];decide
theorem G5:Kw X (fun x H Q=>∃k,Ho X.K x H k∧Q k H):=by
 intro pins s σ H x v Q I rx h
 obtain⟨k,e,q⟩:=h
 have hl:=kJ
 have hs:sizeLine=16777216:=sizeLine_eq
 cases x with
 |non=>
  cases rx
  have e':k=false:=e
  subst e'
  exact truthy_none ⟨H,I,q⟩
 |bl b=>
  cases rx
  have e':k=b:=e
  subst e'
  exact wpAny_truthy_bool ⟨H,I,q⟩
 |int i=>
  obtain⟨t,rfl⟩:=rx
  have e':k=(i !=0):=e
  subst e'
  exact PySem.P.truthy_int ⟨H,I,q⟩
 |str y=>
  obtain⟨t,rfl⟩:=rx
  obtain⟨hy,e'⟩:y.length≤sizeLine∧k=((y.length:Int) !=0):=e
  subst e'
  exact PySem.P.truthy_str (by omega) ⟨H,I.tok _,q⟩
 |byt y=>
  obtain⟨t,rfl⟩:=rx
  obtain⟨hy,e'⟩:y.size≤sizeLine∧k=((y.size:Int) !=0):=e
  subst e'
  exact PySem.W.truthy_bytes (by omega) ⟨H,I.tok _,q⟩
 |ref p=>
  cases rx
  have e':(∃xs,SqL X.K H p xs∧k=!xs.isEmpty)∨(∃xs,SqT X.K H p xs∧k=!xs.isEmpty)∨∃aw,H p=some (.dK aw)∧k=!aw.isEmpty:=e
  rcases e' with⟨xs,hx,e'⟩ | ⟨xs,hx,e'⟩ | ⟨aw,hx,e'⟩
  ·subst e'
   obtain⟨aB,r,pl,hz⟩:=I.list hx
   have hlen:=r.length
   exact wpAny_truthy_list pl.isList (by simp only[List.size_toArray];omega) ⟨H,I.tok _,by rw[nA r];exact q⟩
  ·subst e'
   obtain⟨aB,r,pl,hz⟩:=I.tuple hx
   have hlen:=r.length
   exact truthy_tuple pl (by simp only[List.size_toArray];omega) ⟨H,I.tok _,by rw[nA r];exact q⟩
  ·subst e'
   obtain⟨hz,hS,vs,r,m⟩:aw.length≤sizeLine∧(p==sysModules)=false∧∃vs,KV aw vs∧s.heap.DictOf (aU X.prog X.w) p vs:=I.hok p _ hx
   have hlen:aw.length=vs.length:=Paired.length r
   exact wpAny_truthy_dict hS m (by omega) ⟨H,I.tok _,by rw[vN r];exact q⟩
 |_=>exact(show False from e).elim
theorem BE(ha:PE X a ta)(he:∀whole,isTrue a X.env whole=(do let v←whole;standAt a.pos;holding [v] (truthy v))):
 PT X a (fun σ H Q=>ta σ H fun x H'=>∃k,Ho X.K x H' k∧Q k H'):=by
 intro pins s σ H Q I h
 exact isTrue_plain (bK (ha pins s σ H _ I h) fun v s1 ⟨x,H1,I1,r1,q1⟩=>G5 pins s1 σ H1 x v Q I1 r1 q1) (he _)
theorem vals1{x:V}{us:List Value}(r:Vals [x] us):∃u,us=[u]∧RelV x u:=by
 cases r with
 |cons r1 r2=>cases r2;exact⟨_,rfl,r1⟩
theorem vals2{x y:V}{us:List Value}(r:Vals [x,y] us):∃u w',us=[u,w']∧RelV x u∧RelV y w':=by
 cases r with
 |cons r1 r2=>
  cases r2 with
  |cons r3 r4=>cases r4;exact⟨_,_,rfl,r1,r3⟩
theorem zN:CallR X (.builtin "abs") (fun xs H Q=>∃i,xs=[.int i]∧Q (.int (if i<0 then -i else i)) H):=by
 intro pins s σ H xs us Q I r h
 obtain⟨i,rfl,q⟩:=h
 obtain⟨u,rfl,t,rfl⟩:=vals1 r
 exact call_abs_int fun u tk=>⟨.int (if i<0 then -i else i),H,I.tok _,⟨_,rfl⟩,q⟩
theorem yh(hc:X.calm=true):CallR X (.builtin "max") (fun xs H Q=>∃i j,xs=[.int i, .int j]∧Q (.int (if j>i then j else i)) H):=by
 intro pins s σ H xs us Q I r h
 obtain⟨i,j,rfl,q⟩:=h
 obtain⟨u,w',rfl,⟨t,rfl⟩,⟨t',rfl⟩⟩:=vals2 r
 refine max_two_ints (I.ok.hd hc) fun h' tk k=>⟨_,H,I.kept k,?_,q⟩
 by_cases hj:j>i
 ·rw[if_pos hj,if_pos hj];exact⟨_,rfl⟩
 ·rw[if_neg hj,if_neg hj];exact⟨_,rfl⟩
theorem yi(hc:X.calm=true):CallR X (.builtin "min") (fun xs H Q=>∃i j,xs=[.int i, .int j]∧Q (.int (if j<i then j else i)) H):=by
 intro pins s σ H xs us Q I r h
 obtain⟨i,j,rfl,q⟩:=h
 obtain⟨u,w',rfl,⟨t,rfl⟩,⟨t',rfl⟩⟩:=vals2 r
 refine min_two_ints (I.ok.hd hc) fun h' tk k=>⟨_,H,I.kept k,?_,q⟩
 by_cases hj:j<i
 ·rw[if_pos hj,if_pos hj];exact⟨_,rfl⟩
 ·rw[if_neg hj,if_neg hj];exact⟨_,rfl⟩
end
structure ObjM (h:Heap) (x dx C:Addr) (mA:Str→Option Value):Prop where
 obj:h.get? x=some (PySem.W.instObj C dx)
 ns:h.Ns1 dx mA
 ne:dx≠x
theorem yN{h:Heap}{dx:Addr}{mA:Str→Option Value}(n:h.Ns1 dx mA):∃od,h.get? dx=some od∧∀name,PySem.W.lookIn name od=some (mA name):=by
 obtain⟨o,es,ep,ho,hd,hk,_,hm⟩:=n
 refine⟨o,ho,fun name=>?_⟩
 have e:=hm name
 unfold nsFind findBy at e
 rw[←Array.find?_toList] at e
 unfold PySem.W.lookIn
 rw[hd]
 dsimp only
 split
 ·rename_i y q
  rw[q] at e
  exact congrArg some e
 ·rename_i q
  rw[q] at e
  have a:es.toList.any (·.refKey)=false:=by
   rw[List.any_eq_false]
   intro y hy
   obtain⟨z,t,CO⟩:=hk y (Array.mem_toList_iff.mp hy)
   simp[DictEntry.refKey,CO]
  have a':¬es.toList.any (·.refKey)=true:=by rw[a];exact Bool.false_ne_true
  rw[if_neg a']
  exact congrArg some e
theorem ObjM.look{h:Heap}{x dx C:Addr}{mA:Str→Option Value}(I:ObjM h x dx C mA):∃od,PySem.W.InstAt h x (PySem.W.instObj C dx) C (some od)∧∀name,PySem.W.lookIn name od=some (mA name):=
 let ⟨od,ho,hl⟩:=yN I.ns
 ⟨od,⟨I.obj,rfl,rfl,ho⟩,hl⟩
section
variable{prog:Program}{w:World}{A:Around}{E:Value→Shared→Prop}{s:Shared}{K:W.Frag}{x dx C f:Addr}{mA:Str→Option Value}{name:Str}{v:Value}
end
theorem RelO.some_of{v:V}{o:Option Value}(r:RelO (some v) o):∃u,o=some u∧RelV v u:=by
 cases o with
 |none=>exact(show False from r).elim
 |some u=>exact⟨u,rfl,r⟩
section
variable{P:Program}{w:World}{H H':Hp}{h h':Heap}{a C dx:Addr}{fs KA:List (Str×V)}
theorem CY(hok:HOk P w H h)(e:H a=some (.ins C dx fs)):∃mA,ObjM h a dx C mA∧(∀f,RelO (fs.lookup f) (mA f))∧PySem.Within mA (fs.map (·.1))∧fs.length≤1000∧H dx=some (.own a):=by
 obtain⟨d,z,ne,ob,mA,n,r,q⟩:=(show ObjOk P w H h a (.ins C dx fs) from hok a _ e)
 exact⟨mA,⟨ob,n,ne⟩,r,q,z,d⟩
end
structure Cls (K:W.Frag) (C:Addr):Prop where
 pg:PySem.W.plainGet K C Str.empty=true
 hd:PySem.W.hasDictIn K C=true
 po:PySem.W.plainOver K C=true
 sa:PySem.W.findIn K (.ref C) "__setattr__"=some (some (.builtin "object.__setattr__"))
theorem Cls.get{K:W.Frag}{C:Addr}(c:Cls K C)(f:Str):PySem.W.plainGet K C f=true:=c.pg
structure Con (K:W.Frag) (C:Addr) (f:Str) (v:V) (u:Value):Prop where
 at_:PySem.W.findIn K (.ref C) f=some (some u)
 rel:RelV v u
 get:PySem.W.specialIn K u "__get__"=some none
 cp:PySem.W.copiedNames.contains f=false
structure Meth (K:W.Frag) (C:Addr) (m:Str) (f:Addr):Prop where
 at_:PySem.W.findIn K (.ref C) m=some (some (.ref f))
 fn:PySem.W.isFn K (.ref f)=true
 kp:PySem.W.keepIn K (.ref f)=true
section
variable{X:Cx}{pins:List (Addr×Obj)}{σ:St}{H:Hp}{s:Shared}{a C dx:Addr}{fs:List (Str×V)}{f:Str}{v:V}{A:Around}{E:Value→Shared→Prop}
end
section
variable{X:Cx}{o e value:Expr}{f:Str}{pos pos' L6:Pos}{ta tv:TE}
end
section
variable{X:Cx}{pins:List (Addr×Obj)}{σ:St}{H:Hp}{s:Shared}{A:Around}{E:Value→Shared→Prop}{Q:Value→Shared→Prop}{c:Value}{b:Bool}
inductive TyOf (K:W.Frag) (H:Hp):V→Value→Prop where
 |non:TyOf K H .non (.type "NoneType")
 |bl (x:Bool):TyOf K H (.bl x) (.type "bool")
 |int (i:Int):TyOf K H (.int i) (.type "int")
 |str (x:Str):TyOf K H (.str x) (.type "str")
 |flt (x:UInt64):TyOf K H (.flt x) (.type "float")
 |lst {a:Addr}{xs:List V}(e:H a=some (.lst xs)):TyOf K H (.ref a) (.type "list")
 |frz {a:Addr}{o:Obj}{xs:List V}(e:H a=some (.frz o (.lst xs))):TyOf K H (.ref a) (.type "list")
 |tup {a:Addr}{xs:List V}(e:H a=some (.tup xs)):TyOf K H (.ref a) (.type "tuple")
 |dK {a:Addr}{aw:List (Key×V)}(e:H a=some (.dK aw)):TyOf K H (.ref a) (.type "dict")
 |dT {a:Addr}{aw:List (List Key×V)}(e:H a=some (.dT aw)):TyOf K H (.ref a) (.type "dict")
 |ins {a C dx:Addr}{fs:List (Str×V)}(e:H a=some (.ins C dx fs)) (cl:Cls K C) (ha:PySem.W.findIn K (.ref C) "__class__"=some (some (.builtin "object.__class__")))
   (hn:PySem.W.specialIn K (.builtin "object.__class__") "__get__"=some (some (.builtin "getset_descriptor.__get__"))) (MO:PySem.W.takesIn K (.builtin "object.__class__")=some true)
   (hm:PySem.W.mroIn K C (.type "object")=some true):TyOf K H (.ref a) (.ref C)
theorem yF{x:V}{u t:Value}(I:Inv X pins σ H s)(rx:RelV x u)(ty:TyOf X.K H x t)(e:PySem.W.kitOne X.K t c=some b)(h:∀tk,Q (.bool b) {s with toks:=tk}):
 wpAny (model X.prog X.w) A (call (.builtin "isinstance") [u,c]) Q E s:=by
 cases ty with
 |non=>cases (show u=Value.none from rx);exact PySem.W.kia_one PySem.W.kitx_none I.kIn True.intro e (fun z=>nomatch z) h
 |bl y=>cases (show u=Value.bool y from rx);exact PySem.W.kia_one PySem.W.kitx_bool I.kIn True.intro e (fun z=>nomatch z) h
 |int i=>obtain⟨t,q⟩:=(show∃t,u=Value.int i t from rx);cases q;exact PySem.W.kia_one PySem.W.kitx_int I.kIn True.intro e (fun z=>nomatch z) h
 |str y=>obtain⟨t,q⟩:=(show∃t,u=Value.str y t from rx);cases q;exact PySem.W.kia_one PySem.W.kitx_str I.kIn True.intro e (fun z=>nomatch z) h
 |flt y=>obtain⟨t,q⟩:=(show∃t,u=Value.float y t from rx);cases q;exact PySem.W.kia_one PySem.W.kitx_float I.kIn True.intro e (fun z=>nomatch z) h
 | @lst a xs ea=>
   cases (show u=Value.ref a from rx)
   obtain⟨_,_,n,_,h1⟩:=(show ObjOk X.prog X.w H s.heap a (.lst xs) from I.hok a _ ea)
   exact PySem.W.kia_one PySem.W.kitx_list I.kIn ⟨_,h1,rfl⟩ e (fun z=>nomatch z) h
 | @frz a ob xs ea=>
   cases (show u=Value.ref a from rx)
   obtain⟨_,_,_,n,_,h1⟩:=(show ObjOk X.prog X.w H s.heap a (.frz ob (.lst xs)) from I.hok a _ ea)
   exact PySem.W.kia_one PySem.W.kitx_list I.kIn ⟨_,h1,rfl⟩ e (fun z=>nomatch z) h
 | @tup a xs ea=>
   cases (show u=Value.ref a from rx)
   obtain⟨_,_,_,p⟩:=(show ObjOk X.prog X.w H s.heap a (.tup xs) from I.hok a _ ea)
   obtain⟨o,h1,h2,_⟩:=p
   exact PySem.W.kia_one PySem.W.kitx_tuple I.kIn ⟨o,h1,h2⟩ e (fun z=>nomatch z) h
 | @dK a aw ea=>
   cases (show u=Value.ref a from rx)
   obtain⟨_,_,vs,_,p⟩:=(show ObjOk X.prog X.w H s.heap a (.dK aw) from I.hok a _ ea)
   obtain⟨o,es,ep,h1,h2,_⟩:=p
   exact PySem.W.kia_one PySem.W.kitx_dict I.kIn ⟨o,h1,h2.1⟩ e (fun z=>nomatch z) h
 | @dT a aw ea=>
   cases (show u=Value.ref a from rx)
   obtain⟨_,_,xs,_,o,es,ep,h1,h2,_⟩:=(show ObjOk X.prog X.w H s.heap a (.dT aw) from I.hok a _ ea)
   exact PySem.W.kia_one PySem.W.kitx_dict I.kIn ⟨o,h1,h2.1⟩ e (fun z=>nomatch z) h
 | @ins a C dx fs ea cl ha hn MO hm=>
   cases (show u=Value.ref a from rx)
   obtain⟨mA,O,_⟩:=CY I.hok ea
   obtain⟨od,J,_⟩:=O.look
   exact PySem.W.kia_one (PySem.W.kitx_own (cl.get _) cl.hd ha hn MO hm) I.kIn J e (fun z=>nomatch z) h
end
structure Room (k:Nat) (A:Around):Prop where
 hd:A.handled=none
 dp:A.depth+3*k+5<recursionLimit
 un:A.units+16*k+200<cLine
theorem Room.mono{j k:Nat}{A:Around}(r:Room k A)(h:j≤k):Room j A:=⟨r.hd,by have:=r.dp;omega,by have:=r.un;omega⟩
theorem Room.deeper{k:Nat}{A:Around}(r:Room (k+1) A)(env:Env):Room k (A.deeper env):=
 ⟨r.hd,by have:=r.dp;show A.depth+1+3*k+5<_;omega,by have:=r.un;show A.units+3+16*k+200<_;omega⟩
theorem Room.depth{k:Nat}{A:Around}(r:Room k A):A.depth<recursionLimit:=by have:=r.dp;omega
theorem Room.units{k:Nat}{A:Around}(r:Room k A):A.units+64<cLine:=by have:=r.un;omega
def G3:TA:=fun _ H Q=>Q [] H
def B4(ta:TE)(tr:TA):TA:=fun σ H Q=>ta σ H fun x H1=>tr σ H1 fun xs H2=>Q (x::xs) H2
section
variable{X:Cx}{e:Expr}{es:List Expr}{te:TE}{t:TA}{pos:Pos}
theorem rW:PA X [] G3:=fun _ _ _ _ H Q I h=>Calls.spliced_nil ⟨[],H,I, .nil,h⟩
theorem rV(ha:PE X e te)(hr:PA X es t)(hs:starEach (e::es) X.env=(false,eval e X.env)::starEach es X.env:=by rfl):PA X (e::es) (B4 te t):=by
 intro pos pins s σ H Q I h
 rw[hs]
 show wpAny _ _ (spliced ((false,eval e X.env)::backTo pos (starEach es X.env))) _ _ s
 refine Calls.spliced_cons (bK (ha pins s σ H _ I h) fun u s1 ⟨x,H1,I1,r1,q1⟩=>?_)
 exact bK (hr pos pins s1 σ H1 _ I1 q1) fun us s2 ⟨xs,H2,I2,r2,q2⟩=>⟨x::xs,H2,I2, .cons r1 r2,q2⟩
def L5(t:TA):TE:=fun σ H Q=>t σ H fun xs H1=>xs.length≤sizeLine∧∀p,H1 p=none→Q (.ref p) (upd H1 p (.tup xs))
def LZ(t:TA):TE:=fun σ H Q=>t σ H fun xs H1=>xs.length≤sizeLine∧∀p,H1 p=none→Q (.ref p) (upd H1 p (.lst xs))
theorem Gw{x1}(h:PA X es t):PE X (.Tuple es x1 pos) (L5 t):=by
 intro pins s σ H Q I hq
 refine wpAny_Tuple_spliced (bK (h pos pins s σ H _ I hq) fun us s1 ⟨xs,H1,I1,r,z,q⟩=>⟨by rw[←r.length];exact z,?_⟩)
 have hf:H1 s1.heap.objs.size=none:=I1.hok.fresh (Nat.le_refl _)
 refine⟨.ref s1.heap.objs.size,upd H1 s1.heap.objs.size (.tup xs),I1.laid (t':=s1.toks) (fun b u e=>Heap.get?_push_of_some _ e) (Nat.le_refl _) ?_,rfl,q _ hf⟩
 exact⟨z,us,r,⟨_,Heap.get?_push_size _ rfl,rfl,_,rfl⟩⟩
theorem Bw(h:PA X es t):PE X (.List es pos) (LZ t):=by
 intro pins s σ H Q I hq
 refine wpAny_List_spliced (bK (h pos pins s σ H _ I hq) fun us s1 ⟨xs,H1,I1,r,z,q⟩=>⟨by rw[←r.length];exact z,?_⟩)
 have hf:H1 s1.heap.objs.size=none:=I1.hok.fresh (Nat.le_refl _)
 refine⟨.ref s1.heap.objs.size,upd H1 s1.heap.objs.size (.lst xs),I1.laid (t':=s1.toks) (fun b u e=>Heap.get?_push_of_some _ e) (Nat.le_refl _) ?_,rfl,q _ hf⟩
 exact⟨z,us,0,r,Heap.get?_push_size _ rfl⟩
end
abbrev Sp:=List V→Hp→VK→XK→Prop
abbrev vm:=List Env→Hp→Shared→XK→Value→Shared→Prop
structure Env0 (P:Program) (w:World) (K:W.Frag) (mg:Str→Option Value) (base:Heap) (A:Around) (outer:List Env) (s:Shared) (H:Hp):Prop where
 frames:A.frames=some outer
 mod:Mod K mg base
 bs:∀b o,base.get? b=some o→s.heap.get? b=some o∧H b=none
 bsz:base.objs.size≤s.heap.objs.size
 funs:s.heap.FunFrames base outer
 frf:∀b∈mQ outer,H b=none
 hok:HOk P w H s.heap
 bare:AllBare s.gens
def CE(outer:List Env)(P:Program)(w:World)(H:Hp)(s:Shared)(Q:VK)(u:Value)(s':Shared):Prop:=
 ∃v H',s'.os=s.os∧AllBare s'.gens∧Un (mQ outer) [] H H' s.heap s'.heap∧HOk P w H' s'.heap∧RelV v u∧Q v H'
def CR(CX:vm)(outer:List Env)(P:Program)(w:World)(H:Hp)(s:Shared)(Q:VK)(E:XK)(r:Result)(s':Shared):Prop:=
 match r with
 | .ok (.ret u)=>CE outer P w H s Q u s'
 | .ok _=>False
 | .error e=>CX outer H s E e s'
structure FnOk (P:Program) (w:World) (K:W.Frag) (mg:Str→Option Value) (base:Heap) (CX:vm) (k:Nat) (f:Addr) (fd:FuncData) (ps:List Str) (sp:Sp):Prop where
 len:∀vs H Q E,sp vs H Q E→vs.length=ps.length
 run:∀(A:Around) (outer:List Env) (s:Shared) (H:Hp) (args:Args) (us:List Value) (vs:List V) (Q:VK) (E:XK),Room k A→Env0 P w K mg base A outer s H→BindsTo s fd args (ps.zip us)→Vals vs us→sp vs H Q E→
  codeAny (model P w) A (.call (.ref f) args) (CR CX outer P w H s Q E) s
theorem FnOk.mono{P:Program}{w:World}{K:W.Frag}{mg:Str→Option Value}{base:Heap}{CX:vm}{j k:Nat}{f:Addr}{fd:FuncData}{ps:List Str}{sp:Sp}(F:FnOk P w K mg base CX j f fd ps sp)(h:j≤k):
 FnOk P w K mg base CX k f fd ps sp:=⟨F.len,fun A outer s H args us vs Q E hr=>F.run A outer s H args us vs Q E (hr.mono h)⟩
section
variable{X:Cx}{pins:List (Addr×Obj)}{σ:St}{H:Hp}{s s':Shared}
theorem Inv.env0(I:Inv X pins σ H s):Env0 X.prog X.w X.K X.mg X.base X.A X.stack s H:=
 ⟨I.ok.frames,I.ok.mod,I.bs,Nat.le_trans I.ok.bsz I.sz,I.stack,I.stkFree,I.hok,I.bare⟩
theorem Inv.after{Q:VK}{u:Value}(I:Inv X pins σ H s)(h:CE X.stack X.prog X.w H s Q u s'):EP X pins σ Q u s':=by
 obtain⟨v,H',os,bare,un,hok,r,q⟩:=h
 obtain⟨hh,g,d,t,OL⟩:=s'
 obtain rfl:OL=s.os:=os
 exact⟨v,H',I.call (h':=hh) (g':=g) (d':=d) (t':=t) (ch:=[]) un hok bare (fun b z=>absurd z (by simp)),r,q⟩
end
def JC(sp:Sp)(Ez:List V)(E:XK)(t:TA):TE:=fun σ H Q=>t σ H fun vs H1=>sp (vs++Ez) H1 Q E
def Binds(K:W.Frag)(fd:FuncData)(ps:List Str)(ds:List Value):Prop:=
 ∀(s:Shared) (us:List Value),K.In s.heap→(us++ds).length=ps.length→BindsTo s fd ⟨us,[]⟩ (ps.zip (us++ds))
theorem Binds.all{K:W.Frag}{fd:FuncData}{ps:List Str}(h:∀us:List Value,us.length=ps.length→bindArgs fd ⟨us,[]⟩=pure (ps.zip us)):Binds K fd ps []:=fun s us _ hl=>by
 rw[List.append_nil] at hl⊢
 exact .of_eq (h us hl)
def Passes(CX:vm)(X:Cx)(E:XK):Prop:=∀(pins:List (Addr×Obj)) (σ:St) (H:Hp) (s:Shared) (e:Value) (s':Shared),Inv X pins σ H s→CX X.stack H s E e s'→X.xe e s'
section
variable{X:Cx}{CX:vm}{k:Nat}{f C:Addr}{fd:FuncData}{ps:List Str}{sp:Sp}{Ez:List V}{ds:List Value}{E:XK}{x m:Str}{p pos apos:Pos}{e o:Expr}{es:List Expr}{ta:TE}{t:TA}
theorem GQ{pins:List (Addr×Obj)}{σ:St}{H:Hp}{s:Shared}{Q:VK}{us:List Value}{vs:List V}(F:FnOk X.prog X.w X.K X.mg X.base CX k f fd ps sp)(hr:Room k X.A)(hb:Binds X.K fd ps ds)(hd:Vals Ez ds)(hx:Passes CX X E)
 (I:Inv X pins σ H s)(r:Vals vs us)(h:sp (vs++Ez) H Q E):wpAny (model X.prog X.w) X.A (call (.ref f) us) (EP X pins σ Q) X.xe s:=by
 have r2:Vals (vs++Ez) (us++ds):=r.append hd
 have hl:(us++ds).length=ps.length:=by rw[←r2.length];exact F.len _ _ _ _ h
 refine wpAny_call (codeAny_mono (F.run X.A X.stack s H ⟨us,[]⟩ (us++ds) (vs++Ez) Q E hr I.env0 (hb s us I.kIn hl) r2 h) fun r s' hq=>?_)
 cases r with
 |error e=>exact hx pins σ H s e s' I hq
 |ok fl=>
  cases fl with
  |ret u=>exact I.after hq
  |next=>exact False.elim hq
  |brk=>exact False.elim hq
  |cont=>exact False.elim hq
theorem DK(F:FnOk X.prog X.w X.K X.mg X.base CX k f fd ps sp)(hr:Room k X.A)(hg:Gl X x)(hm:X.mg x=some (.ref f))(hk:PySem.W.keepIn X.K (.ref f)=true)(hb:Binds X.K fd ps ds)(hd:Vals Ez ds)(hx:Passes CX X E)
 (ha:PA X (e::es) t)(ri:(x==("__debug__":Str))=false:=by decide)(he:starEach (e::es) X.env=(false,eval e X.env)::starEach es X.env:=by rfl)(o7:(backTo pos (starEach es X.env)).any (·.1)=false:=by rfl):
 PE X (.Call (.Name x p) (e::es) [] pos) (JC sp Ez E t):=by
 intro pins s σ H Q I h
 refine wpAny_Call_Name_kw (xy I hg hm ?_ ri)
 refine PySem.W.callWith_K (h₀:=X.base) I.ok.mod.kin hk (bK (ha pos pins s σ H _ I h) fun us s1 ⟨vs,H1,I1,r,q⟩=>⟨I1.kIn,?_⟩) he o7
 exact GQ F hr hb hd hx I1 r q
structure Mk (K:W.Frag) (C f:Addr):Prop where
 makes:PySem.W.makesIn K C=true
 init:PySem.W.findIn K (.ref C) "__init__"=some (some (.ref f))
 fn:PySem.W.isFn K (.ref f)=true
 kp:PySem.W.keepIn K (.ref C)=true
end
section
variable{X:Cx}{CX:vm}{k:Nat}{f C:Addr}{fd:FuncData}{ps ks:List Str}{sp:Sp}{E:XK}{x m:Str}{p pos apos OG:Pos}{e o:Expr}{es:List Expr}{Pa:List Keyword}{te ta:TE}{t tk:TA}{nm:Option Str}
structure KBinds (K:W.Frag) (fd:FuncData) (ps ks:List Str) (g:List Value→List Value→List Value) (gV:List V→List V→List V):Prop where
 to:∀(s:Shared) (us ws:List Value),K.In s.heap→(g us ws).length=ps.length→BindsTo s fd ⟨us,ks.zip ws⟩ (ps.zip (g us ws))
 rel:∀{vs:List V}{us:List Value}{zs:List V}{ws:List Value},Vals vs us→Vals zs ws→Vals (gV vs zs) (g us ws)
variable{g:List Value→List Value→List Value}{gV:List V→List V→List V}
end
structure FnScope (N P:List Str) (sc:Scope):Prop where
 kind:sc.kind= .function
 co:sc.isCoroutine=false
 gen:sc.isGenerator=false
 nd:N.Nodup
 pre:N.take P.length=P
 par:∀x∈P,sc.names.lookup x=some .local∨sc.names.lookup x=some .cell
 nofree:∀y∈sc.names,y.2≠ .free
theorem pM{kindOf:Str→Option NameKind}{x:Str}:∀{binds:List (Str×Value)}{m:Str→Option Value},(∀v,(x,v)∉binds)→bindL kindOf binds m x=m x
 |[],_,_=>rfl
 |(n,v)::r,m,h=>by
  unfold bindL
  rw[pM fun w hw=>h w (List.mem_cons_of_mem _ hw)]
  split
  ·have:x≠n:=by rintro rfl;exact h v List.mem_cons_self
   simp[this]
  ·rfl
theorem pK{kindOf:Str→Option NameKind}{x:Str}:∀{binds:List (Str×Value)}{m:Str→Option Value},(∀v,(x,v)∉binds)→bindC kindOf binds m x=m x
 |[],_,_=>rfl
 |(n,v)::r,m,h=>by
  unfold bindC
  rw[pK fun w hw=>h w (List.mem_cons_of_mem _ hw)]
  split
  ·rfl
  ·have:x≠n:=by rintro rfl;exact h v List.mem_cons_self
   simp[this]
theorem pL{kindOf:Str→Option NameKind}{x:Str}{v:Value}:∀{P:List Str}{vs:List Value}{i:Nat}{m:Str→Option Value},P.Nodup→P[i]? =some x→vs[i]? =some v→kindOf x=some .local→
 bindL kindOf (P.zip vs) m x=some v
 |[],_,_,_,_,h,_,_=>by simp at h
 |_::_,[],_,_,_,_,h,_=>by simp at h
 |p::P,w::vs,0,m,nd,h1,h2,hk=>by
  simp at h1 h2;subst h1;subst h2
  show bindL kindOf ((p,w)::P.zip vs) m p=_
  unfold bindL
  rw[pM fun v hv=>(List.nodup_cons.mp nd).1 (List.of_mem_zip hv).1,if_pos hk]
  simp
 |p::P,w::vs,i+1,m,nd,h1,h2,hk=>by
  show bindL kindOf ((p,w)::P.zip vs) m x=_
  unfold bindL
  exact pL (i:=i) (List.nodup_cons.mp nd).2 (by simpa using h1) (by simpa using h2) hk
theorem pJ{kindOf:Str→Option NameKind}{x:Str}{v:Value}:∀{P:List Str}{vs:List Value}{i:Nat}{m:Str→Option Value},P.Nodup→P[i]? =some x→vs[i]? =some v→kindOf x≠some .local→
 bindC kindOf (P.zip vs) m x=some v
 |[],_,_,_,_,h,_,_=>by simp at h
 |_::_,[],_,_,_,_,h,_=>by simp at h
 |p::P,w::vs,0,m,nd,h1,h2,hk=>by
  simp at h1 h2;subst h1;subst h2
  show bindC kindOf ((p,w)::P.zip vs) m p=_
  unfold bindC
  rw[pK fun v hv=>(List.nodup_cons.mp nd).1 (List.of_mem_zip hv).1,if_neg hk]
  simp
 |p::P,w::vs,i+1,m,nd,h1,h2,hk=>by
  show bindC kindOf ((p,w)::P.zip vs) m x=_
  unfold bindC
  exact pJ (i:=i) (List.nodup_cons.mp nd).2 (by simpa using h1) (by simpa using h2) hk
def start(N:List Str)(vs:List V):St:=vs.map some++List.replicate (N.length - vs.length) none
def dW(CX:vm)(P:Program)(w:World)(K:W.Frag)(mg:Str→Option Value)(base:Heap)(N:List Str)(qual:Str)(scope:Scope)(f:Addr)(cd:Value)(A:Around)(outer:List Env)(s:Shared)(H:Hp)(E:XK):Cx where
 prog:=P
 w:=w
 K:=K
 mg:=mg
 base:=base
 A:=A.deeper (envOfC qual scope s.heap.objs.size f cd)
 N:=N
 s₀:=s
 H₀:=H
 env:=envOfC qual scope s.heap.objs.size f cd
 outer:=outer
 stack:=envOfC qual scope s.heap.objs.size f cd::outer
 ex:=[]
 calm:=true
 fn:=fun _=>true
 pn:=[]
 xe:=fun e s'=>wpAny (model P w) (A.deeper (envOfC qual scope s.heap.objs.size f cd)) (leaving (envOfC qual scope s.heap.objs.size f cd) e) (fun _ LN=>CX outer H s E e LN) (fun e' LN=>CX outer H s E e' LN) s'
theorem tm{sc:Scope}{n:Nat}{x:Str}(h:sc.names.lookup x=some .cell):∃c,(cellsFrom n sc.names []).lookup x=some c:=by
 have q:=PySem.W.cellsFrom_some sc.names n [] (.inl h)
 exact Option.isSome_iff_exists.mp q
theorem yD{CX:vm}{P:Program}{w:World}{K:W.Frag}{mg:Str→Option Value}{base:Heap}{N ps:List Str}{qual:Str}{scope:Scope}{f:Addr}{cd:Value}{A:Around}{outer:List Env}{s s1:Shared}{H:Hp}{E:XK}{us:List Value}{vs:List V}
 (S:FnScope N ps scope)(hd:A.handled=none)(e0:Env0 P w K mg base A outer s H)(hl:vs.length=ps.length)(r:Vals vs us)
 (x:InCallC s s.heap.objs.size (bindL (envOfC qual scope s.heap.objs.size f cd).kindOf (ps.zip us) fun _=>none) (cellsFrom (s.heap.objs.size+1) scope.names []) (bindC (envOfC qual scope s.heap.objs.size f cd).kindOf (ps.zip us) fun _=>none) s1):
 Inv (dW CX P w K mg base N qual scope f cd A outer s H E) [] (start N vs) H s1:=by
 have o7:ps.length≤N.length:=by have:=congrArg List.length S.pre;rw[List.length_take] at this;omega
 obtain⟨h1,tk,rfl,hk⟩:=x.done
 have IX:∀b:Addr,b∉(dW CX P w K mg base N qual scope f cd A outer s H E).ex:=fun b z=>absurd (show b∈([]:List Addr) from z) (by simp)
 refine⟨⟨e0.mod,S.kind,rfl,rfl,Nat.le_refl _,fun y z c h1 h2=>?_,fun y hy=>?_,fun y c _ h=>?_,fun _=>hd,Around.frames_deeper e0.frames, .inr ⟨rfl,rfl⟩,fun b z=>absurd z (IX b),e0.bs,e0.bsz,fun b _ _=>IX b,fun b z=>absurd z (IX b),e0.funs,e0.frf⟩,
  rfl,e0.bare,Un.kept hk,⟨_,x.toInCall.ns,fun i y v h1 h2 h3=>?_⟩,fun y c h=>⟨_,x.cell y c h⟩,e0.hok.fresh (Nat.le_refl _),fun y c h=>?_,fun p hp=>absurd (show p∈([]:List (Addr×Obj)) from hp) (by simp),e0.hok.kept hk,?_⟩
 ·exact name_of_addr x.apart (PySem.mem_of_lookup h1) (PySem.mem_of_lookup h2)
 ·have hy:scope.names.lookup y=some .cell∨scope.names.lookup y=some .free:=hy
  rcases hy with hy | hy
  ·exact tm hy
  ·exact absurd rfl (S.nofree _ (PySem.mem_of_lookup hy))
 ·exact Nat.le_of_lt (x.above y c (PySem.mem_of_lookup h))
 ·have hi:i<vs.length:=by
   unfold start at h2
   by_cases hi:i<vs.length
   ·exact hi
   ·rw[List.getElem?_append_right (by simpa using hi)] at h2
    rw[List.getElem?_replicate] at h2
    split at h2<;>cases h2
  have ha:vs[i]? =some v:=by
   unfold start at h2
   rw[List.getElem?_append_left (by simpa using hi),List.getElem?_map] at h2
   cases e:vs[i]? with
   |none=>rw[e] at h2;cases h2
   |some a=>rw[e] at h2;cases h2;rfl
  obtain⟨u,hu,rv⟩:=r.get ha
  have hp:ps[i]? =some y:=by
   rw[←S.pre,List.getElem?_take_of_lt (by omega)];exact h1
  have M3:ps.Nodup:=by rw[←S.pre];exact S.nd.sublist (List.take_sublist _ _)
  refine⟨u,rv,?_⟩
  rcases S.par y (List.mem_of_getElem? hp) with k | k
  ·exact .inl ⟨k,pL M3 hp hu k⟩
  ·obtain⟨c,e⟩:=tm (n:=s.heap.objs.size+1) k
   refine .inr ⟨.inl k,c,e,?_⟩
   have q:=x.cell y c e
   rw[pJ M3 hp hu (by show scope.names.lookup y≠_;rw[k];decide)] at q
   exact q
 ·exact e0.hok.fresh (Nat.le_of_lt (x.above y c (PySem.mem_of_lookup h)))
 ·unfold start
  show _=N.length
  rw[List.length_append,List.length_map,List.length_replicate]
  omega
theorem EB{CX:vm}{P:Program}{w:World}{K:W.Frag}{mg:Str→Option Value}{base:Heap}{k:Nat}{f:Addr}{name qual:Str}{params:Arguments}{body:List Stmt}{scope:Scope}{dV kV doc pm bu ct oc:Value}{an od:Option Addr}
 {Dv:Array (Option Value)}{N ps:List Str}{sp:Sp}(lk:K.lookup f=some ⟨oc,od, .func (PySem.W.fnOf name qual params body scope dV kV doc pm an bu ct),Dv⟩)(vh:PySem.W.codeIn K bu qual=true)(S:FnScope N ps scope)
 (len:∀vs H Q E,sp vs H Q E→vs.length=ps.length)
 (nq:∀(A:Around) (outer:List Env) (s:Shared) (H:Hp) (vs:List V) (Q:VK) (E:XK),Room k (A.deeper (envOfC qual scope s.heap.objs.size f bu))→sp vs H Q E→
  ∃t,PSs (dW CX P w K mg base N qual scope f bu A outer s H E) body t∧t {nx:=fun _ H'=>Q .non H',rt:=Q} (start N vs) H):
 FnOk P w K mg base CX (k+1) f (PySem.W.fnOf name qual params body scope dV kV doc pm an bu ct) ps sp:=by
 refine⟨len,fun A outer s H args us vs Q E hr e0 hb r Co=>?_⟩
 have hl:=len _ _ _ _ Co
 have KX:K.In s.heap:=e0.mod.kin.keeps fun b o e=>(e0.bs b o e).1
 have lim:s.heap.NoLimit:=e0.mod.nolimit.keeps fun b o e=>(e0.bs b o e).1
 have Ie:∀y∈ps.zip us,scope.names.lookup y.1=some .local∨(scope.names.lookup y.1=some .cell∧((cellsFrom (s.heap.objs.size+1) scope.names []).lookup y.1).isSome=true):=fun⟨n,v⟩ hy=>by
  rcases S.par n (List.of_mem_zip hy).1 with q | q
  ·exact .inl q
  ·exact .inr ⟨q,PySem.W.cellsFrom_some _ _ _ (.inl q)⟩
 refine codeAny_call_function hr.depth (KX _ _ lk) rfl S.co S.gen rfl (PySem.W.codeRec_of KX vh) (hb _ _ _ _ ?_)
 refine wpAny_newFunctionEnv_cells S.kind Ie fun env he s1 x=>?_
 subst he
 refine⟨lim.keeps x.toInCall.keep,codeAny_func ?_⟩
 obtain⟨t,ht,hq⟩:=nq A outer s H vs Q E (hr.deeper _) Co
 have I:Inv (dW CX P w K mg base N qual scope f bu A outer s H E) [] (start N vs) H s1:=yD S hr.hd e0 hl r x
 refine wpAny_mono (ht [] s1 (start N vs) H _ I hq) (fun fl s' hs=>?_) fun e s' hs=>hs
 have fin:∀{σ':St}{H':Hp}{v:V}{u:Value},Inv (dW CX P w K mg base N qual scope f bu A outer s H E) [] σ' H' s'→RelV v u→Q v H'→CE outer P w H s Q u s':=
  fun {σ' H' v u} J rv q=>⟨v,H',J.os,J.bare,J.base,J.hok,rv,q⟩
 cases fl with
 |ret u=>
  obtain⟨v,σ',H',J,rv,q⟩:=hs
  exact fin J rv q
 |next=>
  obtain⟨σ',H',J,q⟩:=hs
  exact fin (v:=V.non) (u:=Value.none) J rfl q
 |brk=>
  obtain⟨_,_,_,q⟩:=hs
  exact False.elim q
 |cont=>
  obtain⟨_,_,_,q⟩:=hs
  exact False.elim q
section
variable{X:Cx}{x:Str}{p pos:Pos}{e:Expr}{es:List Expr}{t:TA}{id T:String}{r:List V→Hp→VK→Prop}
def LU(r:List V→Hp→VK→Prop)(t:TA):TE:=fun σ H Q=>t σ H fun vs H1=>r vs H1 Q
theorem Bq(hc:CallR X (.builtin id) r)(hg:Gl X x)(hm:X.mg x=none)(hv:bootBuiltins x=some (.builtin id))(ha:PA X (e::es) t)(hn:x≠"__name__":=by decide)(ri:(x==("__debug__":Str))=false:=by decide)
 (he:starEach (e::es) X.env=(false,eval e X.env)::starEach es X.env:=by rfl)(o7:(backTo pos (starEach es X.env)).any (·.1)=false:=by rfl):PE X (.Call (.Name x p) (e::es) [] pos) (LU r t):=by
 intro pins s σ H Q I h
 refine wpAny_Call_Name_kw (jt I hg hm hv ?_ hn ri)
 exact PyProof.Rows.callWith_builtin1 (bK (ha pos pins s σ H _ I h) fun us s1 ⟨vs,H1,I1,r1,q1⟩=>hc pins s1 σ H1 vs us Q I1 r1 q1) he o7
theorem zd(hc:CallR X (.type T) r)(hg:Gl X x)(hm:X.mg x=none)(hv:bootBuiltins x=some (.type T))(ha:PA X (e::es) t)(hn:x≠"__name__":=by decide)(ri:(x==("__debug__":Str))=false:=by decide)
 (he:starEach (e::es) X.env=(false,eval e X.env)::starEach es X.env:=by rfl)(o7:(backTo pos (starEach es X.env)).any (·.1)=false:=by rfl):PE X (.Call (.Name x p) (e::es) [] pos) (LU r t):=by
 intro pins s σ H Q I h
 refine wpAny_Call_Name_kw (jt I hg hm hv ?_ hn ri)
 exact PyProof.Rows.callWith_type1 (bK (ha pos pins s σ H _ I h) fun us s1 ⟨vs,H1,I1,r1,q1⟩=>hc pins s1 σ H1 vs us Q I1 r1 q1) he o7
end
end L2
namespace HT
open PySem PyProof.Rows
def lexLt:List Int→List Int→Bool
 |[],[]=>false
 |[],_::_=>true
 |_::_,[]=>false
 |x::xs,y::ys=>if x=y then lexLt xs ys else decide (x<y)
theorem lexLt_cons(x y:Int)(xs ys:List Int):lexLt (x::xs) (y::ys)=if x=y then lexLt xs ys else decide (x<y):=rfl
theorem lexLt_nil_nil:lexLt [] []=false:=rfl
theorem lexLt_nil_cons(y:Int)(ys:List Int):lexLt [] (y::ys)=true:=rfl
theorem lexLt_cons_nil(x:Int)(xs:List Int):lexLt (x::xs) []=false:=rfl
theorem eqAt_int(A:Around)(s:Shared)(a:Int)(t:Tok)(c:Int)(u:Tok):∃e,SeqAt.EqAt A s (.int a t) (.int c u) e∧(e=true↔a=c):=
 ⟨(a==c),SeqAt.EqAt.int_int a t c u,by simp⟩
theorem rcLt_int(A:Around)(s:Shared)(a:Int)(t:Tok)(c:Int)(u:Tok)(prog:Program)(w:World)(E:Value→Shared→Prop)(Q:Value→Shared→Prop)(h:Q (.bool (decide (a<c))) s):
 wpAny (model prog w) A (richCompare .Lt (.int a t) (.int c u)) Q E s:=
 (PyProof.Rows.lt_int h:wpAny (model prog w) A (compareOp .Lt (.int a t) (.int c u)) Q E s)
section
open PySem.SeqAt
open PySem.AutoSeq1 (wpAny_loadPart')
open PySem.MeetsSeq PySem.MeetsSeq2 PySem.MeetsSeq3
theorem tuple_lt_ints(l b:Addr)(items fQ:Array Value)(n n2:Nat)(dd yt:Option Addr)(sl E5:Array (Option Value))(ns ms:List Int)(hi:IntsAre items.toList ns)(hj:IntsAre fQ.toList ms):
 Meets (Builtin.«tuple.__lt__» ⟨[.ref l, .ref b],[]⟩)
  (fun _ R s=>s.heap.get? l=some {cls:= .type "tuple",dict:=dd,data:= .seq items n,slots:=sl}∧s.heap.get? b=some {cls:= .type "tuple",dict:=yt,data:= .seq fQ n2,slots:=E5}∧
   R (.ok (.ret (.bool (lexLt ns ms)))) s):=
 .of_wp fun prog w A R s h=>by
  obtain⟨hp,g,d,tk,os⟩:=s;obtain⟨hl,hb,h⟩:=h
  have f2:=AutoSeq1.sub_tuple_tuple
  have z1:items.size=ns.length:=by rw[←hi.length];simp
  have z2:fQ.size=ms.length:=by rw[←hj.length];simp
  wp_walk using wpAny_loadPart' hl,wpAny_loadPart' hb,wpAny_forIn_list _ (fun rest b s'=>b.1=none∧s'=⟨hp,g,d,tk,os⟩∧∃(vs ws:List Value) (He Hd:List Int),rest=vs.zip ws∧
   IntsAre vs He∧IntsAre ws Hd∧He.length+fQ.size=Hd.length+items.size∧R (.ok (.ret (.bool (lexLt He Hd)))) ⟨hp,g,d,tk,os⟩) _
  case turn=>
   rintro⟨y,x⟩ rest b s' ⟨HU,rfl,vs,ws,He,Hd,hz,Ll,Kd,hlen,hR⟩
   cases Ll with
   |nil=>rw[List.zip_nil_left] at hz;cases hz
   |cons a t Lm=>
    cases Kd with
    |nil=>rw[List.zip_nil_right] at hz;cases hz
    |cons c u Lo=>
     rw[List.zip_cons_cons] at hz
     injection hz with Oy Ir
     injection Oy with hy hx
     subst hy hx
     rw[lexLt_cons] at hR
     simp only[List.length_cons] at hlen
     obtain⟨e,he,Ib⟩:=eqAt_int A.in1 ⟨hp,g,d,tk,os⟩ a t c u
     refine wpAny_bind (he prog w _ _ ?_)
     cases e with
     |true=>
      rw[if_pos (Ib.mp rfl)] at hR
      wp_walk
      exact⟨rfl,rfl,_,_,_,_,Ir,Lm,Lo,by omega,hR⟩
     |false=>
      rw[if_neg (fun q=>absurd (Ib.mpr q) Bool.false_ne_true)] at hR
      have Oe:=rcLt_int A.in1 ⟨hp,g,d,tk,os⟩ a t c u prog w
      wp_walk using Oe
      exact⟨_,rfl,by simpa using hR⟩
  case fin=>
   rintro⟨b1,b2⟩ s' ⟨HU,rfl,vs,ws,He,Hd,hz,Ll,Kd,hlen,hR⟩
   simp only at HU
   subst HU
   have hv:lexLt He Hd=decide (items.size<fQ.size):=by
    cases Ll with
    |nil=>
     cases Kd with
     |nil=>
      simp only[List.length_nil] at hlen
      rw[lexLt_nil_nil]
      exact(decide_eq_false (by omega)).symm
     |cons c u hw=>
      simp only[List.length_nil,List.length_cons] at hlen
      rw[lexLt_nil_cons]
      exact(decide_eq_true (by omega)).symm
    |cons a t hv=>
     cases Kd with
     |nil=>
      simp only[List.length_nil,List.length_cons] at hlen
      rw[lexLt_cons_nil]
      exact(decide_eq_false (by omega)).symm
     |cons c u hw=>
      rw[List.zip_cons_cons] at hz
      cases hz
   rw[hv] at hR
   wp_walk
   exact⟨_,rfl,by simpa[Builtin.Tuple.tupleCompareSizes] using hR⟩
  case h=>
   exact⟨rfl,rfl,items.toList,fQ.toList,ns,ms,rfl,hi,hj,by omega,h⟩
end
section
variable{prog:Program}{w:World}{A:Around}{E:Value→Shared→Prop}{s:Shared}
theorem lt_tupInts{l b:Addr}{items fQ:Array Value}{ns ms:List Int}{Q:Value→Shared→Prop}(hl:IsTup s.heap l items)(hb:IsTup s.heap b fQ)(hi:IntsAre items.toList ns)(hj:IntsAre fQ.toList ms)
 (hu:A.units<cLine)(h:Q (.bool (lexLt ns ms)) s):wpAny (model prog w) A (compareOp .Lt (.ref l) (.ref b)) Q E s:=by
 obtain⟨⟨cls,dd,data,sl⟩,ho,hc,n,hd⟩:=id hl
 obtain⟨⟨Hv,yt,data2,E5⟩,Cm,Cj,n2,hd2⟩:=id hb
 simp only at hc hd Cj hd2
 subst hc hd Cj hd2
 exact richCompare_meets_room (op:= .Lt) ⟨_,ho,rfl⟩ ⟨_,Cm,rfl⟩ PySem.F.slot_tuple_lt PySem.F.entry_tuple_lt (PySem.F.args_tuple_lt_2 _ _) (tuple_lt_ints l b items fQ n n2 dd yt sl E5 ns ms hi hj)
  ⟨ho,Cm,show Value.bool (lexLt ns ms)≠Value.notImplemented∧Q (.bool (lexLt ns ms)) s from⟨(fun x=>nomatch x),h⟩⟩ hu
theorem cat_tup{t b:Addr}{vs ws:List Value}{Q:Value→Shared→Prop}(ht:IsTup s.heap t vs.toArray)(hb:IsTup s.heap b ws.toArray)(hv:vs≠[])
 (h1:ws=[]→Q (.ref t) s)(h2:ws≠[]→Q (.ref s.heap.objs.size) {s with heap:=s.heap.push {cls:= .type "tuple",data:= .seq (vs++ws).toArray} })
 (hsz:vs.length+ws.length≤sizeLine):wpAny (model prog w) A (binaryOp .Add (.ref t) (.ref b)) Q E s:=by
 obtain⟨⟨cls,dd,data,sl⟩,ho,hc,n,hd⟩:=id ht
 obtain⟨⟨Hv,yt,data2,E5⟩,Cm,Cj,n2,hd2⟩:=id hb
 simp only at hc hd Cj hd2
 subst hc hd Cj hd2
 have e:vs.toArray++ws.toArray=(vs++ws).toArray:=by simp
 by_cases hw:ws=[]
 ·exact concat_meets ⟨_,ho,rfl⟩ ⟨_,Cm,rfl⟩ noFill_tuple_add seq_tuple_add PySem.F.slot_tuple_add PySem.F.entry_tuple_add (PySem.F.args_tuple_add_2 _ _)
   (tuple_addW1 t b vs.toArray ws.toArray n n2 dd yt sl E5 (by simpa using hv) (by simp[hw])) ⟨ho,Cm,h1 hw⟩
 ·refine concat_meets ⟨_,ho,rfl⟩ ⟨_,Cm,rfl⟩ noFill_tuple_add seq_tuple_add PySem.F.slot_tuple_add PySem.F.entry_tuple_add (PySem.F.args_tuple_add_2 _ _)
   (tuple_addW2 t b vs.toArray ws.toArray n n2 dd yt sl E5 (by simpa using hv) (by simpa using hw) (by rw[List.size_toArray,List.size_toArray];exact hsz)) ⟨ho,Cm,?_⟩
  rw[e]
  exact h2 hw
def sIx(n d:Nat):Option Int→Nat
 |none=>d
 |some v=>if v<0 then(v+(n:Int)).toNat else min v.toNat n
theorem sIx_none(n d:Nat):sIx n d none=d:=rfl
theorem sIx_nat(n d k:Nat):sIx n d (some (k:Int))=min k n:=by
 show (if (k:Int)<0 then((k:Int)+(n:Int)).toNat else min (k:Int).toNat n)=min k n
 rw[if_neg (by omega),Int.toNat_natCast]
theorem sIx_le(n d:Nat)(hd:d≤n)(o:Option Int):sIx n d o≤n:=by
 cases o with
 |none=>exact hd
 |some v=>
  show (if v<0 then(v+(n:Int)).toNat else min v.toNat n)≤n
  by_cases hv:v<0
  ·rw[if_pos hv];omega
  ·rw[if_neg hv];exact Nat.min_le_right _ _
theorem clip_eq(v:Int)(n d:Nat):(if v<0 then max (v+(n:Int)) 0 else min v (n:Int))=((sIx n d (some v):Nat):Int):=by
 show (if v<0 then max (v+(n:Int)) 0 else min v (n:Int))=(((if v<0 then(v+(n:Int)).toNat else min v.toNat n):Nat):Int)
 by_cases hv:v<0
 ·simp only[if_pos hv];omega
 ·simp only[if_neg hv];omega
theorem adjust_gen(lo hi:Option Int)(n:Nat):Builtin.Slice.sliceAdjust lo hi 1 (n:Int)=(((sIx n 0 lo:Nat):Int),((sIx n n hi:Nat):Int)):=by
 have h1:¬((1:Int)<0):=by omega
 unfold Builtin.Slice.sliceAdjust
 simp only[h1,if_false]
 refine Prod.ext ?_ ?_
 ·cases lo with
  |none=>rfl
  |some v=>exact clip_eq v n 0
 ·cases hi with
  |none=>rfl
  |some v=>exact clip_eq v n n
theorem places_gen(i j:Nat):Builtin.Slice.slicePlaces (i:Int) (j:Int) 1=j - i:=by
 unfold Builtin.Slice.slicePlaces
 have h1:(1:Int)>0:=by omega
 simp only[h1,if_true,Int.ediv_one]
 split<;>omega
theorem slicePart_{v:Value}{o:Option Int}{Q:Option Int→Shared→Prop}(p:IsPart v o)(h:Q o s):wpAny (model prog w) A (Builtin.Slice.slicePartIndex v) Q E s:=by
 cases p with
 |none=>exact slicePart_none h
 |int i t=>exact slicePart_int h
theorem sliceApplied_gen{sl:Addr}{vl vu:Value}{lo hi:Option Int}{n:Nat}{Q:Int×Int×Nat→Shared→Prop}(hs:s.heap.IsSliceOf sl vl vu .none)(pl:IsPart vl lo)(pu:IsPart vu hi)
 (h:Q (((sIx n 0 lo:Nat):Int),1,sIx n n hi - sIx n 0 lo) s):wpAny (model prog w) A (Builtin.Slice.sliceApplied (.ref sl) (pure (n:Int))) Q E s:=by
 obtain⟨os,As,J1,EG⟩:=id hs
 unfold Builtin.Slice.sliceApplied Builtin.Slice.sliceFields
 refine wpAny_bind (wpAny_bind (wpAny_field As EG (x:=vl) rfl (wpAny_bind (wpAny_field As EG (x:=vu) rfl (wpAny_bind (wpAny_field As EG (x:= .none) rfl (wpAny_pure ?_)))))))
 refine wpAny_bind (slicePart_none ?_)
 show wpAny _ _ (if ((1:Int)==0)=true then _ else _) _ _ s
 rw[if_neg (by decide)]
 refine wpAny_bind (slicePart_ pl (wpAny_bind (slicePart_ pu (wpAny_bind (wpAny_pure ?_)))))
 show wpAny _ _ (match Builtin.Slice.sliceAdjust lo hi 1 (n:Int) with | (lo,hi)=>pure (lo,(1:Int),Builtin.Slice.slicePlaces lo hi 1)) _ _ s
 rw[adjust_gen lo hi n]
 show wpAny _ _ (pure (((sIx n 0 lo:Nat):Int),(1:Int),Builtin.Slice.slicePlaces ((sIx n 0 lo:Nat):Int) ((sIx n n hi:Nat):Int) 1)) _ _ s
 rw[places_gen]
 exact wpAny_pure h
theorem pick_gen(xs:Array Value)(i k:Nat):((List.range k).filterMap fun(m:Nat)=>xs[((i:Int)+(m:Int)*1).toNat]?).toArray=((xs.toList.drop i).take k).toArray:=by
 have e:(fun (m:Nat)=>xs[((i:Int)+(m:Int)*1).toNat]?)=fun m=>xs[i+m]? :=by
  funext m
  have:((i:Int)+(m:Int)*1).toNat=i+m:=by omega
  rw[this]
 rw[e]
 have:=pick_run xs i k
 rw[List.filterMap_map] at this
 have e2:((fun x=>xs[x]?)∘fun x=>i+x)=fun m=>xs[i+m]? :=rfl
 rw[e2] at this
 rw[this]
theorem getItem_tuple_cut{t sl:Addr}{items:Array Value}{vl vu:Value}{lo hi:Option Int}{Q:Value→Shared→Prop}(ht:IsTup s.heap t items)(hs:s.heap.IsSliceOf sl vl vu .none)(pl:IsPart vl lo)(pu:IsPart vu hi)
 (hw:¬(sIx items.size 0 lo=0∧sIx items.size items.size hi=items.size))
 (h:Q (.ref s.heap.objs.size) {s with heap:=s.heap.push {cls:= .type "tuple",data:= .seq ((items.toList.drop (sIx items.size 0 lo)).take (sIx items.size items.size hi - sIx items.size 0 lo)).toArray} })
 (hsz:items.size≤sizeLine):wpAny (model prog w) A (getItem (.ref t) (.ref sl)) Q E s:=by
 have xn:sizeOk (.seq ((items.toList.drop (sIx items.size 0 lo)).take (sIx items.size items.size hi - sIx items.size 0 lo)).toArray):=by
  show ((items.toList.drop (sIx items.size 0 lo)).take (sIx items.size items.size hi - sIx items.size 0 lo)).toArray.size≤sizeLine
  rw[List.size_toArray,List.length_take,List.length_drop,Array.length_toList]
  omega
 have hj:sIx items.size items.size hi≤items.size:=sIx_le _ _ (Nat.le_refl _) hi
 obtain⟨os,As,J1,EG⟩:=id hs
 have KL:s.TypeIs (.ref sl) "slice":=⟨os,As,J1⟩
 unfold getItem
 try with_reducible refine wpAny_holding ?_
 first | refine wpAny_bind (wpAny_pure ?_) | skip
 refine wpAny_bind (wpAny_sequenceKey ht.typeIs (by decide) ?_)
 refine wpAny_bind (wpAny_callSpecial?_slot (name:=Str.ofString "__getitem__") ht.typeIs PyProof.Rows.slot_tuple_getitem
  (wpAny_call_entry PyProof.Rows.slot_tuple_getitem ht.typeIs entry_tuple_getitem ?_ (args_tuple_getitem _ _)))
 show wpAny _ _ (Builtin.Tuple.tupleItemsOf (.ref t)>>=_) _ _ s
 refine wpAny_bind (tupleItemsOf_ ht ?_)
 refine wpAny_bind (wpAny_typeOf KL ?_)
 rw[if_pos (by decide)]
 refine wpAny_bind (sliceApplied_gen hs pl pu ?_)
 have vJ:¬((((sIx items.size 0 lo:Nat):Int)==0&&(1:Int)==1&&(sIx items.size items.size hi - sIx items.size 0 lo)==items.size)=true):=by
  intro q
  rw[Bool.and_eq_true,Bool.and_eq_true] at q
  have q1:((sIx items.size 0 lo:Nat):Int)=0:=eq_of_beq q.1.1
  have q2:sIx items.size items.size hi - sIx items.size 0 lo=items.size:=eq_of_beq q.2
  exact hw ⟨by omega,by omega⟩
 show wpAny _ _ (if (((sIx items.size 0 lo:Nat):Int)==0&&(1:Int)==1&&(sIx items.size items.size hi - sIx items.size 0 lo)==items.size)=true then _ else _) _ _ s
 rw[if_neg vJ,pick_gen]
 first
  |exact wpAny_bind (m:=Builtin.Tuple.tupleExact _) (wpAny_newObj_type (wpAny_pure ⟨_,rfl,wpAny_pure h⟩) xn)
  |exact wpAny_bind (m:=Builtin.Tuple.tupleExact _) (wpAny_newObj_type (wpAny_bind (wpAny_pure (wpAny_pure ⟨_,rfl,wpAny_pure h⟩))) xn)
  |exact wpAny_bind (wpAny_bind (m:=Builtin.Tuple.tupleExact _) (wpAny_newObj_type (wpAny_pure (wpAny_pure ⟨_,rfl,wpAny_pure h⟩)) xn))
  |exact wpAny_bind (wpAny_bind (m:=Builtin.Tuple.tupleExact _) (wpAny_newObj_type (wpAny_pure ⟨_,rfl,wpAny_pure h⟩) xn))
end
end HT
namespace L2
open PySem PySem.Spec PyProof.Rows
abbrev TO:=St→Hp→(Option Int→Hp→Prop)→Prop
def PO(X:Cx)(e:Option Expr)(t:TO):Prop:=
 ∀(pins:List (Addr×Obj)) (s:Shared) (σ:St) (H:Hp) (Q:Option Int→Hp→Prop),Inv X pins σ H s→t σ H Q→
  wpAny (model X.prog X.w) X.A (evalPart e X.env) (fun u s'=>∃o H',Inv X pins σ H' s'∧IsPart u o∧Q o H') X.xe s
def Ei:TO:=fun _ H Q=>Q none H
def JH(t:TE):TO:=fun σ H Q=>t σ H fun x H1=>∃i,x= .int i∧Q (some i) H1
theorem intsAre_of{ns:List Int}:∀{us:List Value},Vals (ns.map V.int) us→IntsAre us ns:=by
 induction ns with
 |nil=>intro us r;rw[List.map_nil] at r;cases r;exact .nil
 |cons n ns ih=>
  intro us r
  rw[List.map_cons] at r
  cases r with
  |cons r1 r2=>
   obtain⟨t,e⟩:=r1
   subst e
   exact .cons n t (ih r2)
section
variable{X:Cx}{e:Expr}{te:TE}{lo hi:Option Expr}{tl th:TO}{pos p2:Pos}
theorem DQ:PO X none Ei:=by
 intro pins s σ H Q I h
 rw[evalPart_none]
 exact wpAny_pure ⟨none,H,I, .none,h⟩
theorem DR(h:PE X e te):PO X (some e) (JH te):=by
 intro pins s σ H Q I hw
 rw[evalPart_some]
 refine bK (h pins s σ H _ I hw) fun u s1 ⟨x,H1,I1,r1,q1⟩=>?_
 obtain⟨i,rfl,q⟩:=q1
 obtain⟨t,rfl⟩:=r1
 exact⟨some i,H1,I1, .int i t,q⟩
def SlR(X:Cx)(r:V→Option Int→Option Int→Hp→VK→Prop):Prop:=
 ∀(pins:List (Addr×Obj)) (s:Shared) (σ:St) (H:Hp) (x:V) (v vl vu:Value) (lo hi:Option Int) (sl:Addr) (Q:VK),Inv X pins σ H s→RelV x v→s.heap.IsSliceOf sl vl vu .none→IsPart vl lo→IsPart vu hi→r x lo hi H Q→
  ∃T id,typeLookup (.type T) "__getitem__"=pure (some (.builtin id))∧s.TypeIs v T∧wpAny (model X.prog X.w) X.A (getItem v (.ref sl)) (EP X pins σ Q) X.xe s
theorem SlR.or{r r':V→Option Int→Option Int→Hp→VK→Prop}(h:SlR X r)(h':SlR X r'):SlR X (fun x lo hi H Q=>r x lo hi H Q∨r' x lo hi H Q):=by
 intro pins s σ H x v vl vu lo hi sl Q I rx hs pl pu q
 rcases q with q | q
 ·exact h pins s σ H x v vl vu lo hi sl Q I rx hs pl pu q
 ·exact h' pins s σ H x v vl vu lo hi sl Q I rx hs pl pu q
def OU(r:V→Option Int→Option Int→Hp→VK→Prop)(te:TE)(tl th:TO):TE:=fun σ H Q=>te σ H fun x H1=>tl σ H1 fun l H2=>th σ H2 fun u H3=>r x l u H3 Q
theorem Bx{r:V→Option Int→Option Int→Hp→VK→Prop}(hr:SlR X r)(he:PE X e te)(hl:PO X lo tl)(hu:PO X hi th):PE X (.Subscript e (.Slice lo hi none p2) pos) (OU r te tl th):=by
 intro pins s σ H Q I h
 refine Subscript_ (bK (he pins s σ H _ I h) fun v s1 ⟨x,H1,I1,r1,q1⟩=>?_)
 refine wpAny_Slice (bK (hl pins s1 σ H1 _ I1 q1) fun vl s2 ⟨l,H2,I2,pl,q2⟩=>bK (hu pins s2 σ H2 _ I2 q2) fun vu s3 ⟨u,H3,I3,pu,q3⟩=>?_)
 rw[evalPart_none]
 refine wpAny_pure ?_
 have I4:Inv X pins σ H3 {s3 with heap:=s3.heap.push {cls:= .type "slice",data:= .fields #[vl,vu, .none]} }:=I3.kept (t':=s3.toks) fun b ob q=>Heap.get?_push_of_some _ q
 obtain⟨T,id,hT,ht,hg⟩:=hr pins {s3 with heap:=s3.heap.push {cls:= .type "slice",data:= .fields #[vl,vu, .none]} } σ H3 x v vl vu l u s3.heap.objs.size Q I4 r1 (Heap.IsSliceOf.new ..) pl pu q3
 show wpAny (model X.prog X.w) X.A (subscriptTail e (.Slice lo hi none p2) v (.ref s3.heap.objs.size)) (EP X pins σ Q) X.xe {s3 with heap:=s3.heap.push {cls:= .type "slice",data:= .fields #[vl,vu, .none]} }
 exact tail_any (ops:=[.ref s3.heap.objs.size,v]) ht hT hg (by with_unfolding_all rfl)
def tB(xs:List V)(lo hi:Option Int):List V:=(xs.drop (HT.sIx xs.length 0 lo)).take (HT.sIx xs.length xs.length hi - HT.sIx xs.length 0 lo)
theorem ly(xs:List V)(lo hi:Option Int):(tB xs lo hi).length≤xs.length:=by
 unfold tB
 rw[List.length_take,List.length_drop]
 omega
def LM(K:W.Frag):V→Option Int→Option Int→Hp→VK→Prop:=fun x lo hi H Q=>∃a xs,x= .ref a∧SqT K H a xs∧
 ¬(HT.sIx xs.length 0 lo=0∧HT.sIx xs.length xs.length hi=xs.length)∧∀p,H p=none→Q (.ref p) (upd H p (.tup (tB xs lo hi)))
theorem GY:SlR X (LM X.K):=by
 intro pins s σ H x v vl vu lo hi sl Q I rx hs pl pu h
 obtain⟨a,xs,rfl,hx,hw,q⟩:=h
 cases rx
 obtain⟨aB,r,ht,hz⟩:=I.tuple hx
 have hlen:aB.toArray.size=xs.length:=by rw[List.size_toArray];exact r.length.symm
 refine⟨"tuple",_,PyProof.Rows.slot_tuple_getitem.lookup,ht.typeIs,?_⟩
 refine HT.getItem_tuple_cut ht hs pl pu (by rw[hlen];exact hw) ?_ (by rw[hlen];exact hz)
 rw[hlen]
 refine⟨.ref s.heap.objs.size,_,I.laid (t':=s.toks) (o:= .tup (tB xs lo hi)) (fun b ob q=>Heap.get?_push_of_some _ q) (Nat.le_refl _) ?_,rfl,q _ (I.hok.fresh (Nat.le_refl _))⟩
 exact⟨Nat.le_trans (ly xs lo hi) hz,_,(r.drop (HT.sIx xs.length 0 lo)).take (HT.sIx xs.length xs.length hi - HT.sIx xs.length 0 lo),IsTup.new _ _⟩
def Jp(K:W.Frag):R2:=fun x y H Q=>∃a b xs ys,x= .ref a∧y= .ref b∧SqT K H a xs∧SqT K H b ys∧xs≠[]∧xs.length+ys.length≤sizeLine∧
 (ys=[]→Q (.ref a) H)∧(ys≠[]→∀p,H p=none→Q (.ref p) (upd H p (.tup (xs++ys))))
theorem Vals.nil_iff{xs:List V}{us:List Value}(r:Vals xs us):us=[]↔xs=[]:=by
 cases r with
 |nil=>simp
 |cons _ _=>simp
theorem Dl:OpR X (binaryOp .Add) (Jp X.K):=by
 intro pins s σ H x y v u Q I rx ry h
 obtain⟨a,b,xs,ys,rfl,rfl,ha,hb,hx,hz,q1,q2⟩:=h
 cases rx
 cases ry
 obtain⟨aB,r1,p1,_⟩:=I.tuple ha
 obtain⟨e8,r2,p2,_⟩:=I.tuple hb
 refine HT.cat_tup p1 p2 (fun z=>hx (r1.nil_iff.mp z)) (fun z=>⟨.ref a,H,I,rfl,q1 (r2.nil_iff.mp z)⟩) (fun z=>?_) (by rw[←r1.length,←r2.length];exact hz)
 refine⟨.ref s.heap.objs.size,_,I.laid (t':=s.toks) (o:= .tup (xs++ys)) (fun b ob q=>Heap.get?_push_of_some _ q) (Nat.le_refl _) ?_,rfl,q2 (fun w=>z (r2.nil_iff.mpr w)) _ (I.hok.fresh (Nat.le_refl _))⟩
 exact⟨by rw[List.length_append];exact hz,_,r1.append r2,IsTup.new _ _⟩
end
def AI(n:Nat)(i:Int):Option Nat:=if 0≤i then(if i<n then some i.toNat else none) else if -(n:Int)≤i then some (i+n).toNat else none
def atI{α:Type}(xs:List α)(i:Int):Option α:=(AI xs.length i).bind fun j=>xs[j]?
theorem C3{n:Nat}{i:Int}{j:Nat}(h:AI n i=some j):seqIndex? i n=some j∧j<n∧ -(n:Int)≤i∧i<n:=by
 unfold AI at h
 by_cases h0:0≤i
 ·rw[if_pos h0] at h
  by_cases h1:i<n
  ·rw[if_pos h1] at h
   have e:i.toNat=j:=Option.some.inj h
   exact⟨by rw[seqIndex_of h0 h1,e],by omega,by omega,h1⟩
  ·rw[if_neg h1] at h;cases h
 ·rw[if_neg h0] at h
  by_cases h1: -(n:Int)≤i
  ·rw[if_pos h1] at h
   have e:(i+n).toNat=j:=Option.some.inj h
   exact⟨by rw[seqIndex_neg (by omega) h1,e],by omega,h1,by omega⟩
  ·rw[if_neg h1] at h;cases h
theorem qQ{α:Type}{xs:List α}{i:Int}{v:α}(h:atI xs i=some v):∃j,seqIndex? i xs.length=some j∧xs[j]? =some v∧j<xs.length∧ -(xs.length:Int)≤i∧i<xs.length:=by
 unfold atI at h
 cases e:AI xs.length i with
 |none=>rw[e] at h;cases h
 |some j=>
  rw[e] at h
  obtain⟨h1,h2,h3,h4⟩:=C3 e
  exact⟨j,h1,h,h2,h3,h4⟩
theorem s9{α:Type}(xs:List α)(v:α):atI (xs++[v]) (-1)=some v:=by
 have hl:(xs++[v]).length=xs.length+1:=by simp
 have e:AI (xs++[v]).length (-1)=some xs.length:=by
  unfold AI
  rw[hl,if_neg (by decide),if_pos (by omega)]
  congr 1
  omega
 unfold atI
 rw[e]
 show (xs++[v])[xs.length]? =some v
 simp
def iI(b:Expr):Prop:=∀o i,subscripted b false o i=operate [o,i] (getItem o i)
def Hm(X:Cx)(r:R2):Prop:=
 ∀(value slice:Expr) (pins:List (Addr×Obj)) (s:Shared) (σ:St) (H:Hp) (x y:V) (v u:Value) (Q:VK),Inv X pins σ H s→RelV x v→RelV y u→r x y H Q→
  subscripted slice false v u=operate [v,u] (getItem v u)→wpAny (model X.prog X.w) X.A (subscriptTail value slice v u) (EP X pins σ Q) X.xe s
def JM(X:Cx)(id:String)(r:V→List V→Hp→VK→Prop):Prop:=
 ∀(pins:List (Addr×Obj)) (s:Shared) (σ:St) (H:Hp) (x:V) (xs:List V) (v:Value) (us:List Value) (Q:VK),Inv X pins σ H s→RelV x v→Vals xs us→r x xs H Q→
  wpAny (model X.prog X.w) X.A (call (.builtin id) (v::us)) (EP X pins σ Q) X.xe s
section
variable{X:Cx}{a b:Expr}{ta tb:TE}{pos:Pos}
theorem Ji{r:R2}(hr:Hm X r)(ha:PE X a ta)(hb:PE X b tb)(hs:iI b):PE X (.Subscript a b pos) (JG r ta tb):=by
 intro pins s σ H Q I h
 exact Subscript_ (Fe ha hb I h fun v u s2 x y H2 I2 rx ry q=>hr a b pins s2 σ H2 x y v u Q I2 rx ry q (hs _ _))
def GN(K:W.Frag):R2:=fun x y H Q=>∃p xs i v,x= .ref p∧y= .int i∧SqL K H p xs∧atI xs i=some v∧Q v H
def Jv(K:W.Frag):R2:=fun x y H Q=>∃p xs i v,x= .ref p∧y= .int i∧SqT K H p xs∧atI xs i=some v∧Q v H
def Ju:R2:=fun x y H Q=>∃z i c,x= .str z∧y= .int i∧z.length≤sizeLine∧atI z.cps.toList i=some c∧Q (.str ⟨#[c]⟩) H
theorem xt:Hm X (GN X.K):=by
 intro value slice pins s σ H x y v u Q I rx ry h hs
 obtain⟨p,xs,i,z,rfl,rfl,hq,he,q⟩:=h
 cases rx
 obtain⟨t,rfl⟩:=ry
 obtain⟨aB,r,pl,hz⟩:=I.list hq
 obtain⟨j,h1,h2,h3,h4,h5⟩:=qQ he
 obtain⟨w,ew,vj⟩:=r.get h2
 have hl:=r.length
 have hn:=kJ
 have fin:EP X pins σ Q w s:=⟨z,H,I,vj,q⟩
 by_cases h0:0≤i
 ·have hj:i.toNat=j:=by
   rw[seqIndex_of h0 h5] at h1
   exact Option.some.inj h1
  exact item_listR pl.isList h0 (by omega) (by rw[hj];simpa using ew) fin hs
 ·have hj:(i+(aB.toArray.size:Int)).toNat=j:=by
   rw[seqIndex_neg (by omega) h4] at h1
   rw[List.size_toArray,←hl]
   exact Option.some.inj h1
  exact subscriptTail_builtinR (x:=w) pl.isList.typeIs slot_list_getitem.lookup
   (wpAny_getItem_list_neg (Q:=fun r s'=>r=w∧EP X pins σ Q r s') pl.isList (by omega) (by rw[List.size_toArray]<;>omega) (by omega) (by rw[hj];simpa using ew) ⟨rfl,fin⟩) hs
theorem FX:Hm X (Jv X.K):=by
 intro value slice pins s σ H x y v u Q I rx ry h hs
 obtain⟨p,xs,i,z,rfl,rfl,hq,he,q⟩:=h
 cases rx
 obtain⟨t,rfl⟩:=ry
 obtain⟨aB,r,pl,hz⟩:=I.tuple hq
 obtain⟨j,h1,h2,h3,h4,h5⟩:=qQ he
 obtain⟨w,ew,vj⟩:=r.get h2
 have hl:=r.length
 have hn:=kJ
 have fin:EP X pins σ Q w s:=⟨z,H,I,vj,q⟩
 exact subscriptTail_builtinR (x:=w) pl.typeIs slot_tuple_getitem.lookup
  (getItem_tuple (j:=j) (Q:=fun r s'=>r=w∧EP X pins σ Q r s') pl (by omega) (by omega) (by rw[List.size_toArray,←hl];exact h1) (by simpa using ew) ⟨rfl,fin⟩) hs
theorem FW:Hm X Ju:=by
 intro value slice pins s σ H x y v u Q I rx ry h hs
 obtain⟨z,i,c,rfl,rfl,hz,he,q⟩:=h
 obtain⟨t,rfl⟩:=rx
 obtain⟨t',rfl⟩:=ry
 obtain⟨j,h1,h2,h3,h4,h5⟩:=qQ he
 have hl:z.cps.toList.length=z.length:=by simp[Str.length]
 rw[hl] at h1 h4 h5
 have hn:=kJ
 exact tail_any (typeIs_str s z t) slot_str_getitem.lookup (getItem_str (c:=c) (by
  have e1:decide (i< -(2 ^ 63:Int))=false:=decide_eq_false (by omega)
  have e2:decide (i≥2 ^ 63)=false:=decide_eq_false (by omega)
  rw[e1,e2,Bool.or_false]) (by rw[h1];simpa using h2) ⟨.str ⟨#[c]⟩,H,I.tok _,⟨_,rfl⟩,q⟩) hs
theorem Inv.lst{pins:List (Addr×Obj)}{σ:St}{H:Hp}{s:Shared}{p:Addr}{xs:List V}(I:Inv X pins σ H s)(h:H p=some (.lst xs)):
 ∃(aB:List Value) (n:Nat),Vals xs aB∧s.heap.get? p=some {cls:= .type "list",data:= .seq aB.toArray n}∧xs.length≤sizeLine:=by
 obtain⟨z,aB,n,r,e⟩:=I.hok p _ h
 exact⟨aB,n,r,e,z⟩
theorem sF(lo hi:Option Int)(n:Nat):(sliceBounds lo hi none n).1=((HT.sIx n 0 lo:Nat):Int)∧(sliceBounds lo hi none n).2.1=((HT.sIx n n hi:Nat):Int)∧(sliceBounds lo hi none n).2.2=1:=by
 refine⟨?_,?_,rfl⟩
 ·cases lo with
  |none=>simp[sliceBounds,HT.sIx]
  |some i=>
   simp only[sliceBounds,HT.sIx,Option.getD_none,show (1:Int)>0 by decide,if_true]
   by_cases h:i<0
   ·simp only[h,if_true]<;>omega
   ·simp only[h,if_false]<;>omega
 ·cases hi with
  |none=>simp[sliceBounds,HT.sIx]
  |some i=>
   simp only[sliceBounds,HT.sIx,Option.getD_none,show (1:Int)>0 by decide,if_true]
   by_cases h:i<0
   ·simp only[h,if_true]<;>omega
   ·simp only[h,if_false]<;>omega
theorem pC(aB:List Value)(lo hi:Option Int):slicePick aB.toArray lo hi none=((aB.drop (HT.sIx aB.length 0 lo)).take (HT.sIx aB.length aB.length hi - HT.sIx aB.length 0 lo)).toArray:=by
 obtain⟨h1,h2,h3⟩:=sF lo hi aB.toArray.size
 unfold slicePick
 rw[h1,h2,h3]
 simp only[sliceRange_one,pick_run,List.size_toArray]<;>rfl
def LL(K:W.Frag):V→Option Int→Option Int→Hp→VK→Prop:=fun x lo hi H Q=>∃a xs,x= .ref a∧SqL K H a xs∧∀p,H p=none→Q (.ref p) (upd H p (.lst (tB xs lo hi)))
theorem Ea:SlR X (LL X.K):=by
 intro pins s σ H x v vl vu lo hi sl Q I rx hs pl pu h
 obtain⟨a,xs,rfl,hx,q⟩:=h
 cases rx
 obtain⟨aB,r,ht,hz⟩:=I.list hx
 have hlen:=r.length
 refine⟨"list",_,slot_list_getitem.lookup,ht.isList.typeIs,?_⟩
 refine wpAny_getItem_list_slice ht.isList hs pl pu .none (by simp) ?_ (by rw[List.size_toArray]<;>omega)
 rw[pC,←hlen]
 refine⟨.ref s.heap.objs.size,_,I.laid (t':=s.toks) (o:= .lst (tB xs lo hi)) (fun b ob q=>Heap.get?_push_of_some _ q) (Nat.le_refl _) ?_,rfl,q _ (I.hok.fresh (Nat.le_refl _))⟩
 exact⟨Nat.le_trans (ly xs lo hi) hz,_,0,(r.drop (HT.sIx xs.length 0 lo)).take (HT.sIx xs.length xs.length hi - HT.sIx xs.length 0 lo),Heap.get?_push_size _ rfl⟩
def lB:V→Bool
 | .non=>true
 | .bl _=>true
 | .int _=>true
 | .str _=>true
 |_=>false
def Cg:V→V→Bool
 | .non, .non=>true
 | .bl a, .bl b=>a==b
 | .bl a, .int b=>(if a then 1 else 0)==b
 | .int a, .bl b=>a==(if b then 1 else 0)
 | .int a, .int b=>a==b
 | .str a, .str b=>a==b
 |_,_=>false
theorem Fq{A:Around}{s:Shared}{y x:V}{u v:Value}(ry:RelV y u)(rx:RelV x v)(fy:lB y=true)(fx:lB x=true):SeqAt.EqAt A s u v (Cg y x):=by
 cases y with
 |non=>
  cases ry
  cases x with
  |non=>cases rx;exact SeqAt.EqAt.same _
  |bl b=>cases rx;exact SeqAt.EqAt.none_bool b
  |int b=>obtain⟨t,rfl⟩:=rx;exact SeqAt.EqAt.none_int b t
  |str b=>obtain⟨t,rfl⟩:=rx;exact SeqAt.EqAt.none_str b t
  |_=>exact absurd (show false=true from fx) Bool.false_ne_true
 |bl a=>
  cases ry
  cases x with
  |non=>cases rx;exact SeqAt.EqAt.bool_none a
  |bl b=>cases rx;exact SeqAt.EqAt.bool_bool a b
  |int b=>obtain⟨t,rfl⟩:=rx;exact SeqAt.EqAt.bool_int a b t
  |str b=>obtain⟨t,rfl⟩:=rx;exact SeqAt.EqAt.bool_str a b t
  |_=>exact absurd (show false=true from fx) Bool.false_ne_true
 |int a=>
  obtain⟨t',rfl⟩:=ry
  cases x with
  |non=>cases rx;exact SeqAt.EqAt.int_none a t'
  |bl b=>cases rx;exact SeqAt.EqAt.int_bool a t' b
  |int b=>obtain⟨t,rfl⟩:=rx;exact SeqAt.EqAt.int_int a t' b t
  |str b=>obtain⟨t,rfl⟩:=rx;exact SeqAt.EqAt.int_str a t' b t
  |_=>exact absurd (show false=true from fx) Bool.false_ne_true
 |str a=>
  obtain⟨t',rfl⟩:=ry
  cases x with
  |non=>cases rx;exact SeqAt.EqAt.str_none a t'
  |bl b=>cases rx;exact SeqAt.EqAt.str_bool a t' b
  |int b=>obtain⟨t,rfl⟩:=rx;exact SeqAt.EqAt.str_int a t' b t
  |str b=>obtain⟨t,rfl⟩:=rx;exact SeqAt.EqAt.str_str a t' b t
  |_=>exact absurd (show false=true from fx) Bool.false_ne_true
 |_=>exact absurd (show false=true from fy) Bool.false_ne_true
def vD(x:V)(u:Value):Bool:=match u with
 | .none=>Cg .non x
 | .bool b=>Cg (.bl b) x
 | .int i _=>Cg (.int i) x
 | .str z _=>Cg (.str z) x
 |_=>false
theorem z7{x y:V}{u:Value}(r:RelV y u)(f:lB y=true):vD x u=Cg y x:=by
 cases y with
 |non=>cases r;rfl
 |bl b=>cases r;rfl
 |int i=>obtain⟨t,rfl⟩:=r;rfl
 |str z=>obtain⟨t,rfl⟩:=r;rfl
 |_=>exact absurd (show false=true from f) Bool.false_ne_true
theorem jH{x:V}:∀{xs:List V}{us:List Value},Vals xs us→xs.all lB=true→us.any (vD x)=xs.any fun y=>Cg y x
 |_,_, .nil,_=>rfl
 |y::xs,u::us, .cons r t,f=>by
  rw[List.all_cons,Bool.and_eq_true] at f
  rw[List.any_cons,List.any_cons,z7 r f.1,jH t f.2]
theorem g8{A:Around}{s:Shared}{x:V}{v:Value}(rx:RelV x v)(fx:lB x=true):∀{xs:List V}{us:List Value},Vals xs us→xs.all lB=true→∀u∈us,SeqAt.EqAt A s u v (vD x u)
 |_,_, .nil,_=>fun u hu=>by cases hu
 |y::xs,u::us, .cons r t,f=>fun u' hu=>by
  rw[List.all_cons,Bool.and_eq_true] at f
  rcases List.mem_cons.mp hu with rfl | hu
  ·rw[z7 r f.1];exact Fq r rx f.1 fx
  ·exact g8 rx fx t f.2 u' hu
def Kg(x:V)(xs:List V):Bool:=xs.any fun y=>Cg y x
def LK(K:W.Frag)(neg:Bool):R2:=fun x y H Q=>∃p xs,y= .ref p∧(SqL K H p xs∨SqT K H p xs)∧lB x=true∧xs.all lB=true∧Q (.bl (if neg then !Kg x xs else Kg x xs)) H
theorem yZ:OpR X (compareOp .In) (LK X.K false):=by
 intro pins s σ H x y v u Q I rx ry h
 obtain⟨p,xs,rfl,hq,fx,fs,q⟩:=h
 cases ry
 rcases hq with hq | hq
 ·obtain⟨aB,r,pl,hz⟩:=I.list hq
  refine SeqAt.in_listAt (vD x) pl.isList (fun w hw=>g8 rx fx r fs w (by simpa using hw)) ⟨.bl _,H,I,rfl,?_⟩
  rw[show aB.toArray.any (vD x)=aB.any (vD x) by simp,jH r fs]
  exact q
 ·obtain⟨aB,r,pl,hz⟩:=I.tuple hq
  refine SeqAt.in_tupleAt (vD x) pl (fun w hw=>g8 rx fx r fs w (by simpa using hw)) ⟨.bl _,H,I,rfl,?_⟩
  rw[show aB.toArray.any (vD x)=aB.any (vD x) by simp,jH r fs]
  exact q
theorem rT:OpR X (compareOp .NotIn) (LK X.K true):=by
 intro pins s σ H x y v u Q I rx ry h
 obtain⟨p,xs,rfl,hq,fx,fs,q⟩:=h
 cases ry
 rcases hq with hq | hq
 ·obtain⟨aB,r,pl,hz⟩:=I.list hq
  refine SeqAt.notIn_listAt (vD x) pl.isList (fun w hw=>g8 rx fx r fs w (by simpa using hw)) ⟨.bl _,H,I,rfl,?_⟩
  rw[show aB.toArray.any (vD x)=aB.any (vD x) by simp,jH r fs]
  exact q
 ·obtain⟨aB,r,pl,hz⟩:=I.tuple hq
  refine SeqAt.notIn_tupleAt (vD x) pl (fun w hw=>g8 rx fx r fs w (by simpa using hw)) ⟨.bl _,H,I,rfl,?_⟩
  rw[show aB.toArray.any (vD x)=aB.any (vD x) by simp,jH r fs]
  exact q
theorem qX:CallR X (.builtin "len") (fun xs H Q=>∃p ys,xs=[.ref p]∧(SqL X.K H p ys∨SqT X.K H p ys)∧Q (.int ys.length) H):=by
 intro pins s σ H xs us Q I r h
 obtain⟨p,ys,rfl,hq,q⟩:=h
 obtain⟨u,rfl,rx⟩:=vals1 r
 cases rx
 have hn:=kJ
 rcases hq with hq | hq
 ·obtain⟨aB,r',pl,hz⟩:=I.list hq
  have hlen:=r'.length
  exact Calls.call_len_list pl.isList (by simp only[List.size_toArray]<;>omega) ⟨.int ys.length,H,I.tok _,⟨s.toks+1,by rw[List.size_toArray,hlen]⟩,q⟩
 ·obtain⟨aB,r',pl,hz⟩:=I.tuple hq
  have hlen:=r'.length
  exact len_tuple pl (by simp only[List.size_toArray]<;>omega) ⟨.int ys.length,H,I.tok _,⟨s.toks+1,by rw[List.size_toArray,hlen]⟩,q⟩
theorem qY:CallR X (.builtin "len") (fun xs H Q=>∃z,xs=[.str z]∧z.length≤sizeLine∧Q (.int z.length) H):=by
 intro pins s σ H xs us Q I r h
 obtain⟨z,rfl,hz,q⟩:=h
 obtain⟨u,rfl,t,rfl⟩:=vals1 r
 have hn:=kJ
 exact len_str (by omega) ⟨.int z.length,H,I.tok _,⟨_,rfl⟩,q⟩
theorem CallR.or{f:Value}{r r':List V→Hp→VK→Prop}(h:CallR X f r)(h':CallR X f r'):CallR X f (fun xs H Q=>r xs H Q∨r' xs H Q):=by
 intro pins s σ H xs us Q I rs q
 rcases q with q | q
 ·exact h pins s σ H xs us Q I rs q
 ·exact h' pins s σ H xs us Q I rs q
theorem o9:CallR X (.type "tuple") (fun xs H Q=>∃p ys,xs=[.ref p]∧((SqL X.K H p ys∧∀l,H l=none→Q (.ref l) (upd H l (.tup ys)))∨(SqT X.K H p ys∧Q (.ref p) H))):=by
 intro pins s σ H xs us Q I r h
 obtain⟨p,ys,rfl,h⟩:=h
 obtain⟨u,rfl,rx⟩:=vals1 r
 cases rx
 rcases h with⟨hq,q⟩ | ⟨hq,q⟩
 ·obtain⟨aB,r',pl,hz⟩:=I.list hq
  have hlen:=r'.length
  refine call_tuple_list pl.isList (fun h' kp=>?_) (by simp only[List.size_toArray]<;>omega)
  have I1:Inv X pins σ H {s with heap:=h'}:=I.kept (t':=s.toks) kp
  have I2:Inv X pins σ (upd H h'.objs.size (.tup ys)) {s with heap:=h'.push {cls:= .type "tuple",data:= .seq aB.toArray} }:=
   I1.laid (t':=s.toks) (fun b o e=>Heap.get?_push_of_some _ e) (Nat.le_refl _) (show ObjOk X.prog X.w _ _ _ (.tup ys) from⟨hz,aB,r',IsTup.new _ _⟩)
  exact⟨.ref h'.objs.size,_,I2,rfl,q _ (I1.hok.fresh (Nat.le_refl _))⟩
 ·obtain⟨aB,r',pl,hz⟩:=I.tuple hq
  exact call_tuple_same pl ⟨.ref p,H,I,rfl,q⟩
def JI(K:W.Frag)(T:String)(x:V)(H:Hp):Prop:=match x with
 | .str _=>T="str"
 | .int _=>T="int"
 | .ref p=>(T="list"∧∃xs,SqL K H p xs)∨(T="tuple"∧∃o,K.lookup p=some o∧o.cls= .type "tuple"∧o.dict=none)∨
    (T="dict"∧((∃aw,H p=some (.dK aw))∨∃aw,H p=some (.dT aw)))∨(T="set"∧∃S n,H p=some (.set S n))
 |_=>False
theorem G6{pins:List (Addr×Obj)}{σ:St}{H:Hp}{s:Shared}{T:String}{x:V}{v:Value}(I:Inv X pins σ H s)(r:RelV x v)(ty:JI X.K T x H):
 s.TypeIs v T∧∀a,v= .ref a→∃ob,s.heap.get? a=some ob∧ob.dict=none:=by
 cases x with
 |str z=>
  obtain⟨t,rfl⟩:=r
  cases (show T="str" from ty)
  exact⟨typeIs_str s z t,fun _ e=>nomatch e⟩
 |int i=>
  obtain⟨t,rfl⟩:=r
  cases (show T="int" from ty)
  exact⟨typeIs_int s i t,fun _ e=>nomatch e⟩
 |ref p=>
  cases r
  rcases ty with⟨rfl,xs,hq⟩ | ⟨rfl,o,hk,hc,hd⟩ | ⟨rfl,hk⟩ | ⟨rfl,S,n,hk⟩
  ·obtain⟨aB,_,pl,_⟩:=I.list hq
   refine⟨pl.isList.typeIs,fun a e=>?_⟩
   cases e
   obtain⟨o,n,e,c,hd,_⟩:=pl
   exact⟨o,e,hd⟩
  ·refine⟨⟨o,I.kIn p o hk,hc⟩,fun a e=>?_⟩
   cases e
   exact⟨o,I.kIn _ o hk,hd⟩
  ·have z:∃o,s.heap.get? p=some o∧o.ExactDict:=by
    rcases hk with⟨aw,hk⟩ | ⟨aw,hk⟩
    ·obtain⟨_,_,_,_,o,_,_,e,ex,_⟩:=I.hok p _ hk
     exact⟨o,e,ex⟩
    ·obtain⟨_,_,_,_,o,_,_,e,ex,_⟩:=I.hok p _ hk
     exact⟨o,e,ex⟩
   obtain⟨o,e,ex⟩:=z
   refine⟨⟨o,e,ex.1⟩,fun a e2=>?_⟩
   cases e2
   exact⟨o,e,ex.2.1⟩
  ·obtain⟨o,_,_,_,e,ex,_⟩:=I.hok p _ hk
   refine⟨⟨o,e,ex.1⟩,fun a e2=>?_⟩
   cases e2
   exact⟨o,e,ex.2.1⟩
 |_=>exact False.elim ty
def LS(K:W.Frag)(T:String)(r:V→List V→Hp→VK→Prop)(to:TE)(t:TA):TE:=fun σ H Q=>to σ H fun x H1=>JI K T x H1∧t σ H1 fun xs H2=>r x xs H2 Q
variable{o e:Expr}{es:List Expr}{to:TE}{t:TA}{name:Str}{apos aQ:Pos}{T id:String}{r:V→List V→Hp→VK→Prop}
theorem Bp(pa:PlainAttrs T)(slot:Slot T name id)(Lk:typeOf (.builtin id)=pure (.type "method_descriptor"))(hm:JM X id r)(ho:PE X o to)(ha:PA X (e::es) t)
 (f7:attributeBase o name X.env (eval o X.env)=eval o X.env:=by rfl)
 (nv:((backTo aQ (starEach (e::es) X.env)).all (fun x=>!x.1)&&(backToKw aQ (keywordEach [] X.env)).all (fun x=>x.1.isSome)
  &&decide ((e::es).length+([]:List Keyword).length+(if ([]:List Keyword).isEmpty then 0 else 1)<30))=true:=by rfl)
 (f9:(apos.endLine==aQ.line)=true:=by rfl) (hs:starEach (e::es) X.env=(false,eval e X.env)::starEach es X.env:=by rfl) (vK:(backTo aQ (starEach es X.env)).any (·.1)=false:=by rfl):
 PE X (.Call (.Attribute o name apos) (e::es) [] aQ) (LS X.K T r to t):=by
 intro pins s σ H Q I h
 refine wpAny_Call_method_late f7 nv f9 rfl (bK (ho pins s σ H _ I h) fun v s1 ⟨x,H1,I1,r1,ty,q1⟩=>?_)
 obtain⟨h1,h2⟩:=G6 I1 r1 ty
 refine⟨T,id,pa,slot,Lk,h1,h2,?_⟩
 have hA:=ha aQ pins s1 σ H1 _ I1 q1
 rw[hs] at hA⊢
 refine Calls.callWith_builtin (by show (false||(backTo aQ (starEach es X.env)).any (·.1))=false;rw[vK]<;>rfl) (Calls.evalArgs_plain ?_)
 exact bK hA fun us s2 ⟨vs,H2,I2,r2,q2⟩=>hm pins s2 σ H2 x vs v us Q I2 r1 r2 q2
end
def Mb(X:Cx)(id:String)(r:V→List V→Hp→VK→Prop):Prop:=
 ∀(pins:List (Addr×Obj)) (s:Shared) (σ:St) (H:Hp) (x:V) (xs:List V) (v:Value) (us:List Value) (Q:VK),Inv X pins σ H s→RelV x v→Vals xs us→r x xs H Q→
  wpAny (model X.prog X.w) X.A (call (.builtin id) (v::us)) (EP X pins σ Q) X.xe s
theorem Vals.one:∀{x:V}{us:List Value},Vals [x] us→∃u,us=[u]∧RelV x u
 |_,_, .cons r .nil=>⟨_,rfl,r⟩
section
variable{X:Cx}{pins:List (Addr×Obj)}{σ:St}{H:Hp}{s:Shared}{l b:Addr}{xs ys zs:List V}
theorem Inv.lset{aB its':List Value}{n:Nat}{f:Array Value→Array Value}{t':Nat}(I:Inv X pins σ H s)(hH:H l=some (.lst xs))
 (e:s.heap.get? l=some {cls:= .type "list",data:= .seq aB.toArray n})(hf:f aB.toArray=its'.toArray)(hv:Vals ys its')(hz:ys.length≤sizeLine):
 Inv X pins σ (upd H l (.lst ys)) {s with heap:=s.heap.update l (Obj.mapSeq f),toks:=t'}:=by
 have q:=PySem.IsL.update e f
 rw[hf] at q
 refine I.write (x:=l) (e:=l) (by rw[hH];exact trivial) (.inl rfl) (fun b' u hb hu=>(Heap.get?_update_other s.heap (Obj.mapSeq f) (Ne.symm hb)).trans hu) ⟨_,q⟩ ?_
 exact⟨hz,its',_,hv,q⟩
theorem Inv.lstM(I:Inv X pins σ H s)(hH:H l=some (.lst xs)):xs.length≤sizeLine∧∃(aB:List Value) (n:Nat),Vals xs aB∧xs.length=aB.length∧s.heap.get? l=some {cls:= .type "list",data:= .seq aB.toArray n}:=by
 obtain⟨z,aB,n,r,e⟩:=I.hok l _ hH
 exact⟨z,aB,n,r,r.length,e⟩
theorem A0{n:Nat}(h:n≤sizeLine):Builtin.List.listTooLong n=false:=by
 unfold Builtin.List.listTooLong
 exact decide_eq_false (by omega)
end
section
variable{X:Cx}
def xR:V→List V→Hp→VK→Prop:=fun x vs H Q=>∃l xs y,x= .ref l∧vs=[y]∧H l=some (.lst xs)∧xs.length<sizeLine∧Q .non (upd H l (.lst (xs++[y])))
theorem qe:Mb X "list.append" xR:=by
 intro pins s σ H x vs v us Q I rx rv h
 obtain⟨l,xs,y,rfl,rfl,hH,hz,q⟩:=h
 cases rx
 obtain⟨u,rfl,ru⟩:=rv.one
 obtain⟨z,aB,n,r,hl,e⟩:=I.lstM hH
 refine call_meets F.slot_list_append ⟨_,e,rfl⟩ F.entry_list_append (F.args_list_append_2 _ _) (PySem.list_append l aB.toArray n u (by rw[List.size_toArray];omega)) ⟨e,?_⟩
 refine⟨.non,_,I.lset (its':=aB++[u]) hH e (by simp) (r.append (.cons ru .nil)) ?_,rfl,q⟩
 rw[List.length_append,List.length_singleton]
 omega
def xS:V→List V→Hp→VK→Prop:=fun x vs H Q=>∃l b xs zs,x= .ref l∧vs=[.ref b]∧H l=some (.lst xs)∧H b=some (.lst zs)∧xs.length+zs.length≤sizeLine∧Q .non (upd H l (.lst (xs++zs)))
theorem yT:Mb X "list.extend" xS:=by
 intro pins s σ H x vs v us Q I rx rv h
 obtain⟨l,b,xs,zs,rfl,rfl,hH,hB,hz,q⟩:=h
 cases rx
 obtain⟨u,rfl,ru⟩:=rv.one
 cases ru
 obtain⟨z,aB,n,r,hl,e⟩:=I.lstM hH
 obtain⟨z2,e8,n2,r2,FD,e2⟩:=I.lstM hB
 have hsz:aB.toArray.size+e8.toArray.size≤sizeLine:=by rw[List.size_toArray,List.size_toArray];omega
 have Ij:¬(!aB.toArray.isEmpty&&Builtin.List.listTooLong (aB.toArray.size+e8.toArray.size))=true:=by
  rw[A0 hsz,Bool.and_false]
  exact Bool.false_ne_true
 refine call_meets F.slot_list_extend ⟨_,e,rfl⟩ F.entry_list_extend (F.args_list_extend_2 _ _)
  (AutoSeq1.list_extend_list_list_0 l aB.toArray n b e8.toArray n2 Ij (by rw[List.size_toArray];omega) (by omega)) ⟨e,e2,?_⟩
 refine⟨.non,_,I.lset (its':=aB++e8) hH e (by simp) (r.append r2) ?_,rfl,q⟩
 rw[List.length_append]
 omega
end
section
variable{prog:Program}{w:World}{A:Around}{E:Value→Shared→Prop}{s:Shared}
end
section
variable{X:Cx}
end
end L2
namespace Att
open PySem PySem.W PySem.Calls PyProof.Rows
theorem ints_of_wellAll{P:Params}{h:Heap}:∀(ns:List Int) (vs:List Value),WellAll P h vs (ns.map WData.int)→IntsAre vs ns:=by
 intro ns
 induction ns with
 |nil=>
  intro vs w
  rw[List.map_nil] at w
  cases w
  exact .nil
 |cons n ns ih=>
  intro vs w
  rw[List.map_cons] at w
  cases w with
  |cons a b=>
   cases a
   exact .cons _ _ (ih _ b)
theorem script_of{l:OpenLaw}{n:Nat}(hn:l.most=some n){P:Params}{h:Heap}{args:List WData}{vals:List Value}
 (CT:l.row.toRowW.claim.pre args=true)(Lp:WellAll P h vals args):
 ∃a vs ns,vals=[Value.ref a]∧args=[WData.list (ns.map WData.int)]∧h.get? a=some {cls:= .type "list",data:= .seq vs.toArray}∧IntsAre vs ns∧ns.length≤n:=by
 have Of:WShape.hasAll [] args [.list .int]=true:=(pre_splitW CT).1
 have hc:l.pre.holds [] {args:=args}=true:=(pre_splitW CT).2
 obtain⟨d,r,rfl,h1,h2⟩:=hasAllW_cons Of
 obtain rfl:=hasAllW_nil h2
 obtain⟨xs,rfl,h3⟩:=hasW_list h1
 obtain⟨ns,rfl⟩:=items_int h3
 have hlen:ns.length≤n:=by
  unfold OpenLaw.pre at hc
  have h4:(WTm.not (.lt (.lit (.int (n:Int))) (.len (.arg 0)))).holds [] {args:=[.list (ns.map .int)]}=true:=by
   have h4:=(holds_andW hc).1
   rw[hn] at h4
   exact h4
  have h5:=condW_of h4 (w_not (w_lt w_lit (w_len_list (w_arg rfl))))
  rw[List.length_map] at h5
  refine Nat.le_of_not_lt fun q=>?_
  have q':(n:Int)<((ns.length:Nat):Int):=by omega
  first
   |(rw [decide_eq_true q'] at h5;exact absurd h5 (by decide))
   |(simp at h5;omega)
 cases Lp with
 |cons w1 w2=>
  cases w2
  cases w1 with
  |list ho CK=>exact⟨_,_,ns,rfl,rfl,ho,ints_of_wellAll ns _ CK,hlen⟩
theorem post_true(l:OpenLaw)(args:List WData):l.row.toRowW.claim.post args (.bool true) args=true:=
 postW_of (r:=l.row.toRowW) (X:=(true==true))
  (show WShape.has [] (.bool true) .bool=true by first | rfl | decide | simp[WShape.has,WShape.arms,WShape.armsAll])
  (show (WTm.eq .res (.lit (.bool true))).value [] {args:=args,res:=some (.bool true),after:=args}=some (.bool (true==true)) from w_eq_bool (w_res rfl) w_lit) rfl
theorem attach_call{l:OpenLaw}{n:Nat}{q:Program}{loose:List Str}{XP:(Str→Option Value)→Heap→Prop}{YP:World→Heap→Prop}{d:DefRec}
 (hn:l.most=some n)(HZ:d.params.defaults=[])
 (call:∀(w:World) (s₀ s₁:Shared) (mg mb:Str→Option Value) (fa:Addr) (o:Obj) (pm cd doc:Value) (a:Addr) (vs:List Value) (ns:List Int),
  Ground q loose [] XP w s₀ mg mb s₁.heap→YP w s₁.heap→
  s₁.heap.get? fa=some o→o.data= .func (docDef d.name d.params d.body d.scope pm cd doc)→s₁.heap.CodeRec cd d.name→mg d.name=some (.ref fa)→
  s₁.heap.get? a=some {cls:= .type "list",data:= .seq vs.toArray}→IntsAre vs ns→ns.length≤n→s₁.gens= #[]→
  codeAny (model l.prog w) callerA (.call (.ref fa) ⟨[.ref a],[]⟩) (fun r s'=>r= .ok (.ret (.bool true))∧OldK s₁.heap s'.heap∧s'.os=s₁.os∧AllBare s'.gens) s₁):
 WalkO q loose XP YP l.row.toRowW d [] (fun f vs=>PySem.call f vs):=by
 intro w s₀ s₁ mg mb G Y fa o pm cd doc dV kV ho hd vh hD FF hg args vals as CT N0 O9 Lp O6
 obtain rfl:dV= .none:=Dflts.none hD HZ
 obtain rfl:kV= .none:=Dflts.noKw hD
 obtain⟨a,vs,ns,rfl,rfl,Aq,hints,hlen⟩:=script_of hn CT Lp
 refine enter_call (codeAny_mono (call w s₀ s₁ mg mb fa o pm cd doc a vs ns G Y ho (fd_plain hd) vh FF Aq hints hlen hg) fun r s' hq=>?_)
 obtain⟨rfl,h2,h3,h4⟩:=hq
 exact⟨.inl ⟨.bool true, .bool true,[],rfl,fun _=>rfl, .bool true,post_true l _,fun _=>⟨List.Pairwise.nil,fun _ hm=>(nomatch hm)⟩⟩,h2,h3,h4⟩
section
variable{prog:Program}{w:World}{A:Around}{E:Value→Shared→Prop}{s:Shared}{K:Frag}
def ledger(h:Heap)(L d:Addr):List (Addr×Obj):=(List.range h.objs.size).filterMap fun a=>if a=L∨a=d then none else(h.get? a).map fun o=>(a,o)
end
end Att
namespace L2
open PySem PySem.Spec PyProof.Rows
theorem qK:∀{vs:List Value}{ns:List Int},IntsAre vs ns→Vals (ns.map V.int) vs
 |_,_, .nil=> .nil
 |_,_, .cons n t h=> .cons ⟨t,rfl⟩ (qK h)
def Fc(H:Hp):Prop:=∀b,H b=none∨∃o xs,H b=some (.frz o (.lst xs))
theorem t6{P:Program}{w:World}{K:W.Frag}{mg mb:Str→Option Value}{CX:vm}{k:Nat}{fa a:Addr}{fd:FuncData}{x:Str}{sp:Sp}{s₁:Shared}{vs:List Value}{ns:List Int}
 (KX:K.In s₁.heap)(J6:s₁.heap.Ns mainGlobals mg)(hb:s₁.heap.Ns builtinsNs mb)(ND:∀x:Str,x≠"__name__"→mb x=bootBuiltins x)(Ii:s₁.heap.NoLimit)(hg:s₁.gens= #[])
 (ha:s₁.heap.get? a=some {cls:= .type "list",data:= .seq vs.toArray})(hi:IntsAre vs ns)(hl:ns.length≤sizeLine)(hr:Room k callerA)
 (F:∀base:Heap,K.In base→base.Ns mainGlobals mg→FnOk P w K mg base CX k fa fd [x] sp)(HW:∀(s:Shared) (u:Value),BindsTo s fd ⟨[u],[]⟩ [(x,u)])
 (Co:∀H:Hp,Fc H→SqL K H a (ns.map V.int)→sp [.ref a] H (fun v _=>v= .bl true) fun _ _ _=>False)
 (KH:∀H e s',CX [] H s₁ (fun _ _ _=>False) e s'→False):
 codeAny (model P w) callerA (.call (.ref fa) ⟨[.ref a],[]⟩) (fun r s'=>r= .ok (.ret (.bool true))∧OldK s₁.heap s'.heap∧s'.os=s₁.os∧AllBare s'.gens) s₁:=by
 have rv:=qK hi
 have LB:=hi.length
 have core:∀H:Hp,Fc H→SqL K H a (ns.map V.int)→HOk P w H s₁.heap→(∀b,H b≠none→b=a)→(H a≠none→K.lookup a=none)→
  codeAny (model P w) callerA (.call (.ref fa) ⟨[.ref a],[]⟩) (fun r s'=>r= .ok (.ret (.bool true))∧OldK s₁.heap s'.heap∧s'.os=s₁.os∧AllBare s'.gens) s₁:=by
  intro H hO hS hok hA hK
  have xa:∀{b:Addr}{o:Obj},s₁.heap.get? b=some o→H b=none→(rj s₁.heap H).get? b=some o:=fun e n=>Ao e n
  have IX:∀{b:Addr}{o:Obj}{es:Array DictEntry}{ep:Nat},s₁.heap.get? b=some o→o.data= .dict es ep→H b=none:=fun {b o es ep} e d=>by
   cases q:H b with
   |none=>rfl
   |some u=>
    have e':b=a:=hA b (by rw[q];simp)
    subst e'
    rw[ha] at e;cases e
    have d':Data.seq vs.toArray _=Data.dict es ep:=d
    cases d'
  have Ki:∀{b:Addr}{m:Str→Option Value},s₁.heap.Ns b m→(rj s₁.heap H).Ns b m:=fun {b m} ⟨o,es,ep,e,d,r⟩=>⟨o,es,ep,xa e (IX e d),d,r⟩
  have Mu:K.In (rj s₁.heap H):=fun b o e=>xa (KX b o e) (by
   cases q:H b with
   |none=>rfl
   |some u=>
    have e':b=a:=hA b (by rw[q];simp)
    subst e'
    rw[hK (by rw[q];simp)] at e;cases e)
  have hM:Mod K mg (rj s₁.heap H):=⟨Mu,Ki J6,⟨mb,Ki hb,ND⟩,let ⟨mc,h1,h2⟩:=Ii;⟨mc,Ki h1,h2⟩⟩
  have e0:Env0 P w K mg (rj s₁.heap H) callerA [] s₁ H:=⟨rfl,hM,fun b o e=>Dj e,Nat.le_of_eq (yB _ _),trivial,fun b hb=>absurd (show b∈([]:List Addr) from hb) (by simp),hok, .of_eq hg⟩
  refine codeAny_mono ((F _ Mu (Ki J6)).run callerA [] s₁ H ⟨[.ref a],[]⟩ [.ref a] [.ref a] _ _ hr e0 (HW s₁ (.ref a)) (.cons rfl .nil) (Co H hO hS)) fun r s' h=>?_
  cases r with
  |error e=>exact(KH H e s' h).elim
  |ok fl=>
   cases fl with
   |next=>exact False.elim h
   |brk=>exact False.elim h
   |cont=>exact False.elim h
   |ret u=>
    obtain⟨v,H',os,bare,un,Le,r',q⟩:=h
    have q':v= .bl true:=q
    subst q'
    obtain rfl:u=Value.bool true:=r'
    refine⟨rfl,OldK.of_keep fun b o e=>?_,os,bare⟩
    cases q:H b with
    |none=>exact un.keep b o e q (by intro z;exact absurd (show b∈([]:List Addr) from z) (by simp)) (by simp)
    |some u=>
     rcases hO b with z | ⟨ob,xs,z⟩
     ·rw[q] at z;cases z
     ·have z2:=un.frzs b ob _ z
      obtain⟨e1,_⟩:=hok b _ z
      obtain⟨e2,_⟩:=Le b _ z2
      rw[e] at e1;cases e1
      exact e2
 cases hk:K.lookup a with
 |some o=>
  have e:=KX a o hk
  rw[ha] at e
  cases e
  refine core (fun _=>none) (fun _=> .inl rfl) (.inr ⟨_,vs.toArray,_,hk,rfl,rfl,rfl,by rw[List.size_toArray,LB];exact hl,by simpa using rv⟩) (fun b u z=>by have z':(none:Option HO)=some u:=z;cases z') (fun b z=>absurd rfl z) fun z=>absurd rfl z
 |none=>
  refine core (fun b=>if b=a then some (.frz {cls:= .type "list",data:= .seq vs.toArray} (.lst (ns.map V.int))) else none) (fun b=>?_) (.inl (.inr ⟨{cls:= .type "list",data:= .seq vs.toArray},if_pos rfl⟩)) (fun b u z=>?_) (fun b z=>?_) fun _=>hk
  ·by_cases hb:b=a
   ·exact .inr ⟨_,_,if_pos hb⟩
   ·exact .inl (if_neg hb)
  ·by_cases hb:b=a
   ·have z':=(if_pos hb).symm.trans z
    cases z'
    subst hb
    exact⟨ha,by rw[List.length_map];exact hl,vs,_,rv,ha⟩
   ·have z':=(if_neg hb).symm.trans z
    cases z'
  ·by_cases hb:b=a
   ·exact hb
   ·exact absurd (if_neg hb) z
abbrev OY{K:W.Frag}{h:Heap}(_:K.In h):W.Frag:=K
theorem Kq{l:PySem.W.OpenLaw}{n k:Nat}{q:Program}{loose:List Str}{XP:(Str→Option Value)→Heap→Prop}{YP:World→Heap→Prop}{d:DefRec}{K:Params→W.Frag}{CX:World→vm}{sp:World→Sp}{x:Str}
 (hn:l.most=some n)(J5:n≤sizeLine)(HZ:d.params.defaults=[])(hr:Room k callerA)
 (hY:∀(w:World) (h:Heap),YP w h→(K w.params).In h)
 (F:∀(w:World) (mg:Str→Option Value) (fa:Addr) (h:Heap),(K w.params).In h→h.Ns mainGlobals mg→mg d.name=some (.ref fa)→
  ∃fd:FuncData,(∀(s:Shared) (u:Value),BindsTo s fd ⟨[u],[]⟩ [(x,u)])∧
   ∀base:Heap,(K w.params).In base→base.Ns mainGlobals mg→FnOk l.prog w (K w.params) mg base (CX w) k fa fd [x] (sp w))
 (Co:∀(w:World) (H:Hp) (a:Addr) (ns:List Int),ns.length≤n→Fc H→SqL (K w.params) H a (ns.map V.int)→sp w [.ref a] H (fun v _=>v= .bl true) fun _ _ _=>False)
 (KH:∀(w:World) (H:Hp) (s:Shared) (e:Value) (s':Shared),CX w [] H s (fun _ _ _=>False) e s'→False):
 PySem.W.WalkO q loose XP YP l.row.toRowW d [] (fun f vs=>PySem.call f vs):=by
 refine Att.attach_call hn HZ fun w s₀ s₁ mg mb fa o pm cd doc a vs ns G Y ho hd vh FF Aq hints hlen hg=>?_
 have KX:=hY w _ Y
 obtain⟨fd,hb,hF⟩:=F w mg fa _ KX G.T.g FF
 exact t6 KX G.T.g G.T.b G.T.builtins G.T.nolimit hg Aq hints (Nat.le_trans hlen J5) hr hF hb (fun H hO hS=>Co w H a ns hlen hO hS) fun H e s'=>KH w H s₁ e s'
abbrev Kr:vm:=fun _ _ _ _ _ _=>False
structure Fun (K:W.Frag) (x qual:Str) (st:Stmt) (f:Addr) (fd:FuncData):Prop where
 ex:∃(oc:Value) (od:Option Addr) (kV doc pm:Value) (an:Option Addr) (bu ct:Value) (Dv:Array (Option Value)),
  fd=PySem.W.fnOf x qual (ei st) (aW st) (af st) .none kV doc pm an bu ct∧K.lookup f=some ⟨oc,od, .func fd,Dv⟩∧PySem.W.codeIn K bu qual=true
 kp:PySem.W.keepIn K (.ref f)=true
section
variable{P:Program}{w:World}{K:W.Frag}{mg:Str→Option Value}{base:Heap}
theorem Fun.ok{x qual:Str}{st:Stmt}{f:Addr}{fd:FuncData}{N ps:List Str}{k:Nat}{sp:Sp}(F:Fun K x qual st f fd)(S:FnScope N ps (af st))(len:∀vs H Q E,sp vs H Q E→vs.length=ps.length)
 (nq:∀(bu:Value) (A:Around) (outer:List Env) (s:Shared) (H:Hp) (vs:List V) (Q:VK) (E:XK),Room k (A.deeper (envOfC qual (af st) s.heap.objs.size f bu))→sp vs H Q E→
  ∃t,PSs (dW Kr P w K mg base N qual (af st) f bu A outer s H E).nox (aW st) t∧t {nx:=fun _ H'=>Q .non H',rt:=Q} (start N vs) H):FnOk P w K mg base Kr (k+1) f fd ps sp:=by
 obtain⟨oc,od,kV,doc,pm,an,bu,ct,Dv,rfl,lk,vh⟩:=F.ex
 refine EB lk vh S len fun A outer s H vs Q E hr Co=>?_
 obtain⟨t,h,q⟩:=nq bu A outer s H vs Q E hr Co
 exact⟨t,h.nox,q⟩
theorem Fun.binds{x qual:Str}{st:Stmt}{f:Addr}{fd:FuncData}{ps:List Str}(F:Fun K x qual st f fd)
 (h:∀(kV doc pm:Value) (an:Option Addr) (bu ct:Value) (us:List Value),us.length=ps.length→bindArgs (PySem.W.fnOf x qual (ei st) (aW st) (af st) .none kV doc pm an bu ct) ⟨us,[]⟩=pure (ps.zip us)):Binds K fd ps []:=by
 obtain⟨oc,od,kV,doc,pm,an,bu,ct,Dv,rfl,lk,vh⟩:=F.ex
 exact .all (h kV doc pm an bu ct)
theorem Ab{x qual:Str}{st:Stmt}{f:Addr}{oc:Value}{od an:Option Addr}{Dv:Array (Option Value)}{kV doc pm bu ct:Value}(l:K.lookup f=some ⟨oc,od, .func (PySem.W.fnOf x qual (ei st) (aW st) (af st) .none kV doc pm an bu ct),Dv⟩)
 (c:PySem.W.codeIn K bu qual=true)(k:PySem.W.keepIn K (.ref f)=true):Fun K x qual st f (PySem.W.fnOf x qual (ei st) (aW st) (af st) .none kV doc pm an bu ct):=⟨⟨oc,od,kV,doc,pm,an,bu,ct,Dv,rfl,l,c⟩,k⟩
end
section
variable{X:Cx}
theorem pv(i:Nat){x:Str}{pos:Pos}(hN:X.N[i]? =some x:=by rfl)(hv:Ky X.env.scope x:=by first | exact Or.inl rfl | exact Or.inr (Or.inl rfl) | exact Or.inr (Or.inr rfl))(hd:(x==("__debug__":Str))=false:=by decide)
 (vh:(x==("__classdict__":Str))=false:=by decide):PE X (.Name x pos) (oQ i):=Gy hN hv hd vh
end
def Same(H H':Hp):Prop:=∀b o,H b=some o→H' b=some o
theorem Same.refl(H:Hp):Same H H:=fun _ _ h=>h
theorem Same.trans{H H1 H2:Hp}(a:Same H H1)(b:Same H1 H2):Same H H2:=fun c o h=>b c o (a c o h)
theorem Same.free{H H':Hp}(e:Same H H'){l:Addr}(h:H' l=Option.none):H l=Option.none:=by
 cases q:H l with
 |none=>rfl
 |some o=>
  rw[e l o q] at h
  cases h
theorem Same.seq{K:W.Frag}{H H':Hp}{a:Addr}{xs:List V}(e:Same H H')(h:SqL K H a xs):SqL K H' a xs:=by
 rcases h with(h | ⟨o,h⟩) | h
 ·exact .inl (.inl (e _ _ h))
 ·exact .inl (.inr ⟨o,e _ _ h⟩)
 ·exact .inr h
section
variable{κ:Type}[DecidableEq κ]
def kh(aw:List (κ×V))(k:κ):Option V:=(aw.find? fun kv=>decide (kv.1=k)).map (·.2)
def putK(aw:List (κ×V))(k:κ)(v:V):List (κ×V):=
 if (aw.any fun kv=>decide (kv.1=k))=true then aw.map (fun kv=>if kv.1=k then(kv.1,v) else kv) else aw++[(k,v)]
theorem kj{p:κ×V}{r:List (κ×V)}{k:κ}(e:p.1=k):kh (p::r) k=some p.2:=by simp[kh,List.find?_cons,e]
theorem ki{p:κ×V}{r:List (κ×V)}{k:κ}(e:¬p.1=k):kh (p::r) k=kh r k:=by simp[kh,List.find?_cons,e]
theorem oV(k:κ):∀aw:List (κ×V),(aw.any fun kv=>decide (kv.1=k))=(kh aw k).isSome
 |[]=>rfl
 |p::r=>by
  rw[List.any_cons]
  by_cases e:p.1=k
  ·simp only[kj e,decide_eq_true e,Bool.true_or,Option.isSome_some]
  ·rw[ki e,decide_eq_false e,Bool.false_or];exact oV k r
theorem et(aw:List (κ×V))(k:κ)(v:V):(putK aw k v).length≤aw.length+1:=by
 unfold putK
 split
 ·rw[List.length_map];omega
 ·rw[List.length_append,List.length_cons,List.length_nil];omega
theorem RelO.isSome_eq{o:Option V}{u:Option Value}(r:RelO o u):o.isSome=u.isSome:=by
 cases o with
 |none=>cases u with
  |none=>rfl
  |some _=>exact(show False from r).elim
 |some _=>cases u with
  |none=>exact(show False from r).elim
  |some _=>rfl
theorem RelO.getD{o:Option V}{u:Option Value}{d:V}{d':Value}(r:RelO o u)(rd:RelV d d'):RelV (o.getD d) (u.getD d'):=by
 cases o with
 |none=>cases u with
  |none=>exact rd
  |some _=>exact(show False from r).elim
 |some _=>cases u with
  |none=>exact(show False from r).elim
  |some _=>exact r
theorem KV.val{aw:List (κ×V)}{vs:List (κ×Value)}(r:KV aw vs)(k:κ):RelO (kh aw k) (valueAt vs k):=by
 unfold KV at r
 induction r with
 |nil=>exact True.intro
 | @cons p q ps qs h t ih=>
   obtain⟨h1,h2⟩:=h
   by_cases e:p.1=k
   ·have e':q.1=k:=h1.symm.trans e
    have b:valueAt (q::qs) k=some q.2:=by simp[valueAt,List.find?_cons,e']
    rw[kj e,b];exact h2
   ·have e':¬q.1=k:=fun z=>e (h1.trans z)
    have b:valueAt (q::qs) k=valueAt qs k:=by simp[valueAt,List.find?_cons,e']
    rw[ki e,b];exact ih
theorem KV.any{aw:List (κ×V)}{vs:List (κ×Value)}(r:KV aw vs)(k:κ):(aw.any fun kv=>decide (kv.1=k))=vs.any fun kv=>decide (kv.1=k):=by
 unfold KV at r
 induction r with
 |nil=>rfl
 |cons h t ih=>rw[List.any_cons,List.any_cons,ih,h.1]
theorem KV.repl{aw:List (κ×V)}{vs:List (κ×Value)}(r:KV aw vs)(k:κ){y:V}{u:Value}(ry:RelV y u):
 KV (aw.map fun kv=>if kv.1=k then(kv.1,y) else kv) (vs.map fun kv=>if kv.1=k then(kv.1,u) else kv):=by
 unfold KV at r⊢
 induction r with
 |nil=>exact .nil
 | @cons p q ps qs h t ih=>
   rw[List.map_cons,List.map_cons]
   refine .cons ?_ ih
   obtain⟨h1,h2⟩:=h
   by_cases e:p.1=k
   ·rw[if_pos e,if_pos (h1.symm.trans e)];exact⟨h1,ry⟩
   ·rw[if_neg e,if_neg (fun z=>e (h1.trans z))];exact⟨h1,h2⟩
theorem KV.put{aw:List (κ×V)}{vs:List (κ×Value)}(r:KV aw vs)(k:κ){y:V}{u:Value}(ry:RelV y u):KV (putK aw k y) (stored vs k u):=by
 unfold putK stored
 rw[r.any k]
 by_cases e:(vs.any fun kv=>decide (kv.1=k))=true
 ·rw[if_pos e,if_pos e];exact r.repl k ry
 ·rw[if_neg e,if_neg e];exact Paired.snoc r ⟨rfl,ry⟩
theorem KV.length{aw:List (κ×V)}{vs:List (κ×Value)}(r:KV aw vs):aw.length=vs.length:=Paired.length r
end
theorem lD{P:Program}{w:World}{k:Key}{u:Value}(r:RelV (kV k) u):(aU P w).is k u=true:=by
 cases k with
 |inl i=>obtain⟨t,e⟩:=(show∃t,u=Value.int i t from r);subst e;exact ua P w i t
 |inr x=>obtain⟨t,e⟩:=(show∃t,u=Value.str x t from r);subst e;exact ub P w x t
theorem p5{P:Program}{w:World}:∀{ks:List Key}{us:List Value},Vals (ks.map kV) us→ItemsAre (aU P w) ks us
 |[],_,r=>by rw[List.map_nil] at r;cases r;exact .nil
 |k::ks,_,r=>by
  rw[List.map_cons] at r
  cases r with
  |cons h t=>exact .cons (lD h) (p5 t)
abbrev KT(H:Hp):List (List Key×V)→List (List Key×Addr×Value)→Prop:=Paired fun p q=>p.1=q.1∧H q.2.1=some (.tup (p.1.map kV))∧RelV p.2 q.2.2
theorem KT.val{H:Hp}{aw:List (List Key×V)}{xs:List (List Key×Addr×Value)}(r:KT H aw xs)(k:List Key):RelO (kh aw k) ((atKey xs k).map (·.2)):=by
 induction r with
 |nil=>exact True.intro
 | @cons p q ps qs h t ih=>
   obtain⟨h1,_,h2⟩:=h
   by_cases e:p.1=k
   ·have e':q.1=k:=h1.symm.trans e
    have b:atKey (q::qs) k=some q.2:=by simp[atKey,List.find?_cons,e']
    rw[kj e,b];exact h2
   ·have e':¬q.1=k:=fun z=>e (h1.trans z)
    have b:atKey (q::qs) k=atKey qs k:=by simp[atKey,List.find?_cons,e']
    rw[ki e,b];exact ih
theorem KT.repl{H:Hp}{aw:List (List Key×V)}{xs:List (List Key×Addr×Value)}(r:KT H aw xs)(k:List Key){y:V}{u:Value}(ry:RelV y u):
 KT H (aw.map fun kv=>if kv.1=k then(kv.1,y) else kv) (xs.map (putAt k u)):=by
 induction r with
 |nil=>exact .nil
 | @cons p q ps qs h t ih=>
   rw[List.map_cons,List.map_cons]
   refine .cons ?_ ih
   obtain⟨h1,h2,h3⟩:=h
   unfold putAt
   by_cases e:p.1=k
   ·rw[if_pos e,if_pos (h1.symm.trans e)];exact⟨h1,h2,ry⟩
   ·rw[if_neg e,if_neg (fun z=>e (h1.trans z))];exact⟨h1,h2,h3⟩
theorem KT.put{H:Hp}{aw:List (List Key×V)}{xs:List (List Key×Addr×Value)}(r:KT H aw xs)(k:List Key){b:Addr}{y:V}{u:Value}(hb:H b=some (.tup (k.map kV)))(ry:RelV y u):
 KT H (putK aw k y) (storedH xs k b u):=by
 have e:(aw.any fun kv=>decide (kv.1=k))=(atKey xs k).isSome:=by
  rw[oV,(r.val k).isSome_eq,Option.isSome_map]
 unfold putK storedH
 rw[e]
 by_cases q:(atKey xs k).isSome=true
 ·rw[if_pos q,if_pos q];exact r.repl k ry
 ·rw[if_neg q,if_neg q];exact Paired.snoc r ⟨rfl,hb,ry⟩
theorem KT.keeps{H H':Hp}{aw:List (List Key×V)}{xs:List (List Key×Addr×Value)}(r:KT H aw xs)(ht:∀b ys,H b=some (.tup ys)→H' b=some (.tup ys)):KT H' aw xs:=
 Paired.mapP r fun _ _ z=>⟨z.1,ht _ _ z.2.1,z.2.2⟩
section
variable{P:Program}{w:World}{H:Hp}{h:Heap}{a:Addr}
theorem E4{u:HO}(ok:HOk P w H h)(e:Rd H a u):ObjOk P w H h a u:=e.ok ok
theorem lz{aw:List (Key×V)}(ok:HOk P w H h)(e:Rd H a (.dK aw)):aw.length≤sizeLine∧(a==sysModules)=false∧∃vs,KV aw vs∧h.DictOf (aU P w) a vs:=
 show ObjOk P w H h a (.dK aw) from E4 ok e
theorem Ey{aw:List (Key×V)}(ok:HOk P w H h)(e:H a=some (.dK aw)):aw.length≤sizeLine∧(a==sysModules)=false∧∃vs,KV aw vs∧h.DictOf (aU P w) a vs:=lz ok (.inl e)
theorem g7{ks:List Key}(ok:HOk P w H h)(e:H a=some (.tup (ks.map kV))):(tupleKind (aU P w)).is h ks a:=by
 obtain⟨_,aB,r,o,h1,h2,n,h3⟩:=(show ObjOk P w H h a (.tup (ks.map kV)) from ok a _ e)
 exact⟨o,aB.toArray,n,h1,h2,h3,by simpa using p5 r⟩
theorem jJ{aw:List (List Key×V)}(ok:HOk P w H h)(e:Rd H a (.dT aw)):aw.length≤sizeLine∧(a==sysModules)=false∧
 ∃xs,KT H aw xs∧h.DictOfH (tupleKind (aU P w)) a xs:=by
 obtain⟨z,y,xs,r,o,es,ep,h1,h2,h3,h4,h5⟩:=(show ObjOk P w H h a (.dT aw) from E4 ok e)
 refine⟨z,y,xs,r,o,es,ep,h1,h2,h3,h4,fun x hx=>?_,h5⟩
 have all:∀{l:List (List Key×V)}{m:List (List Key×Addr×Value)},KT H l m→∀x∈m,(tupleKind (aU P w)).is h x.1 x.2.1:=by
  intro l m q
  induction q with
  |nil=>intro x hx;exact nomatch hx
  | @cons p q ps qs hq t ih=>
    intro x hx
    rcases List.mem_cons.mp hx with e | hx
    ·subst e
     exact g7 ok (by rw[←hq.1];exact hq.2.1)
    ·exact ih x hx
 exact all r x hx
theorem zZ{aw:List (List Key×V)}(ok:HOk P w H h)(e:H a=some (.dT aw)):aw.length≤sizeLine∧(a==sysModules)=false∧
 ∃xs,KT H aw xs∧h.DictOfH (tupleKind (aU P w)) a xs:=jJ ok (.inl e)
end
def ji(H:Hp)(a:Addr)(y:V)(r:Option V):Prop:=
 (∃aw k,Rd H a (.dK aw)∧y=kV k∧r=kh aw k)∨∃aw k b,Rd H a (.dT aw)∧y= .ref b∧H b=some (.tup (k.map kV))∧r=kh aw k
def DPut(H:Hp)(a:Addr)(y v:V)(H':Hp):Prop:=
 (∃aw k,H a=some (.dK aw)∧y=kV k∧aw.length<sizeLine∧H'=upd H a (.dK (putK aw k v)))∨
 ∃aw k b,H a=some (.dT aw)∧y= .ref b∧H b=some (.tup (k.map kV))∧aw.length<sizeLine∧H'=upd H a (.dT (putK aw k v))
theorem DPut.k{H:Hp}{a:Addr}{aw:List (Key×V)}{k:Key}{v:V}(e:H a=some (.dK aw))(hl:aw.length<sizeLine):DPut H a (kV k) v (upd H a (.dK (putK aw k v))):= .inl ⟨aw,k,e,rfl,hl,rfl⟩
theorem DPut.t{H:Hp}{a b:Addr}{aw:List (List Key×V)}{k:List Key}{v:V}(e:H a=some (.dT aw))(eb:H b=some (.tup (k.map kV)))(hl:aw.length<sizeLine):
 DPut H a (.ref b) v (upd H a (.dT (putK aw k v))):= .inr ⟨aw,k,b,e,rfl,eb,hl,rfl⟩
section
variable{X:Cx}{pins:List (Addr×Obj)}{σ:St}{H:Hp}{s:Shared}{a:Addr}{y v:V}{u r:Value}{o:Option V}{A:Around}{E:Value→Shared→Prop}
theorem Inv.big(I:Inv X pins σ H s):sysModules<s.heap.objs.size:=by
 have h:mainGlobals<s.heap.objs.size:=(I.mod.glob.keeps I.bk).lt
 exact Nat.lt_trans (by decide) h
theorem yp{Q:Value→Shared→Prop}(hu:A.units+1<cLine)(I:Inv X pins σ H s)(g:ji H a y (some v))(ry:RelV y u)(h:∀w' s',Inv X pins σ H s'→RelV v w'→Q w' s'):
 wpAny (model X.prog X.w) A (getItem (.ref a) u) Q E s:=by
 rcases g with⟨aw,k,e,ey,l⟩ | ⟨aw,k,b,e,ey,eb,l⟩
 ·subst ey
  obtain⟨z,hd,vs,rel,dd⟩:=lz I.hok e
  obtain⟨w',hw,vj⟩:=RelO.some_of (v:=v) (o:=valueAt vs k) (by rw[l];exact rel.val k)
  exact wpAny_getItem_of (lD ry) dd.mapOf hw (h w' _ (I.tok _) vj)
 ·subst ey
  cases (show u=Value.ref b from ry)
  obtain⟨z,hd,xs,rel,dd⟩:=jJ I.hok e
  obtain⟨w',hw,vj⟩:=RelO.some_of (v:=v) (o:=(atKey xs k).map (·.2)) (by rw[l];exact rel.val k)
  obtain⟨p,hp,Lg⟩:=Option.map_eq_some_iff.mp hw
  refine wpAny_getItem_heap (tupleKind_room_in1 hu) (g7 I.hok eb) dd hp ?_
  rw[Lg]
  exact h w' _ (I.tok _) vj
theorem HC{Q:Value→Shared→Prop}(hu:A.units+1<cLine)(I:Inv X pins σ H s)(g:ji H a y o)(ry:RelV y u)(h:∀s',Inv X pins σ H s'→Q (.bool o.isSome) s'):
 wpAny (model X.prog X.w) A (compareOp .In u (.ref a)) Q E s:=by
 rcases g with⟨aw,k,e,ey,l⟩ | ⟨aw,k,b,e,ey,eb,l⟩
 ·subst ey
  obtain⟨z,hd,vs,rel,dd⟩:=lz I.hok e
  refine wpAny_in_of (lD ry) hd dd.mapOf ?_
  rw[←(rel.val k).isSome_eq,←l]
  exact h _ (I.tok _)
 ·subst ey
  cases (show u=Value.ref b from ry)
  obtain⟨z,hd,xs,rel,dd⟩:=jJ I.hok e
  refine wpAny_in_heap (tupleKind_room_in1 hu) (g7 I.hok eb) hd dd ?_
  have q:=(rel.val k).isSome_eq
  rw[Option.isSome_map] at q
  rw[←q,←l]
  exact h _ (I.tok _)
theorem CD{Q:Value→Shared→Prop}(hu:A.units+1<cLine)(I:Inv X pins σ H s)(g:ji H a y o)(ry:RelV y u)(h:∀s',Inv X pins σ H s'→Q (.bool (!o.isSome)) s'):
 wpAny (model X.prog X.w) A (compareOp .NotIn u (.ref a)) Q E s:=by
 rcases g with⟨aw,k,e,ey,l⟩ | ⟨aw,k,b,e,ey,eb,l⟩
 ·subst ey
  obtain⟨z,hd,vs,rel,dd⟩:=lz I.hok e
  refine wpAny_notIn_of (lD ry) hd dd.mapOf ?_
  rw[←(rel.val k).isSome_eq,←l]
  exact h _ (I.tok _)
 ·subst ey
  cases (show u=Value.ref b from ry)
  obtain⟨z,hd,xs,rel,dd⟩:=jJ I.hok e
  refine wpAny_notIn_heap (tupleKind_room_in1 hu) (g7 I.hok eb) hd dd ?_
  have q:=(rel.val k).isSome_eq
  rw[Option.isSome_map] at q
  rw[←q,←l]
  exact h _ (I.tok _)
theorem jI{h':Heap}{t':Nat}{ob:HO}(I:Inv X pins σ H s)(mu:Hn (H a))(hs:Heap.SameBut a s.heap h')(he:∃q,h'.get? a=some q)(new:ObjOk X.prog X.w (upd H a ob) h' a ob):
 Inv X pins σ (upd H a ob) {s with heap:=h',toks:=t'}:=
 I.write (x:=a) (e:=a) mu (.inl rfl) (fun b q hb z=>(hs.2 b hb).trans z) he new
theorem zY{P:Program}{w:World}{H':Hp}{h':Heap}{aw:List (Key×V)}{vs:List (Key×Value)}(z:aw.length≤sizeLine)(hd:(a==sysModules)=false)(rel:KV aw vs)(dd:h'.DictOf (aU P w) a vs):
 ObjOk P w H' h' a (.dK aw):=⟨z,hd,vs,rel,dd⟩
theorem yr{H':Hp}{Q:Unit→Shared→Prop}(hu:A.units+1<cLine)(I:Inv X pins σ H s)(g:DPut H a y v H')(ry:RelV y u)(rv:RelV v r)(h:∀s',Inv X pins σ H' s'→Q () s'):
 wpAny (model X.prog X.w) A (setItem (.ref a) u r) Q E s:=by
 rcases g with⟨aw,k,e,ey,l,eH⟩ | ⟨aw,k,b,e,ey,eb,l,eH⟩
 ·subst ey eH
  obtain⟨z,hd,vs,rel,dd⟩:=Ey I.hok e
  have hz:vs.length≤sizeLine:=by rw[←rel.length];exact z
  have hl:(putK aw k v).length≤sizeLine:=by have:=et aw k v;omega
  refine wpAny_setItem_pairs (hsz:=hz) (lD ry) dd fun h' zV hs=>h _ ?_
  have he:∃q,h'.get? a=some q:=let ⟨q,_,_,hq,_⟩:=zV;⟨q,hq⟩
  exact jI I (by rw[e];exact True.intro) hs he (zY hl hd (rel.put k rv) zV)
 ·subst ey eH
  cases (show u=Value.ref b from ry)
  obtain⟨z,hd,xs,rel,dd⟩:=zZ I.hok e
  have hz:xs.length≤sizeLine:=by rw[←Paired.length rel];exact z
  have hl:(putK aw k v).length≤sizeLine:=by have:=et aw k v;omega
  refine wpAny_setItem_heap (hsz:=hz) (tupleKind_room_in1 hu) (g7 I.hok eb) dd fun h' zV hs=>h _ ?_
  obtain⟨q,es,ep,hq,h2,h3,h4,_,h5⟩:=zV
  refine jI I (by rw[e];exact True.intro) hs ⟨q,hq⟩ ⟨hl,hd,_,(rel.put k eb rv).keeps fun c ys ec=>?_,q,es,ep,hq,h2,h3,h4,h5⟩
  rw[ax (AU ec e (fun z=>nomatch z))]
  exact ec
end
section
variable{X:Cx}{pins:List (Addr×Obj)}{σ:St}{H:Hp}{s:Shared}{a:Addr}{aw:List (Key×V)}{k:Key}{u:Value}{A:Around}{E:Value→Shared→Prop}
end
def Fb(i:Expr):Prop:=∀ov iv,subscripted i false ov iv=operate [ov,iv] (getItem ov iv)
theorem Ef{prog:Program}{w:World}{A:Around}{E:Value→Shared→Prop}{s:Shared}{env:Env}{value slice:Expr}{pos:Pos}{T id:String}{Q:Value→Shared→Prop}
 (hl:typeLookup (.type T) "__getitem__"=pure (some (.builtin id)))(hs:Fb slice)
 (h:wpAny (model prog w) A (eval value env) (fun o s₁=>wpAny (model prog w) A (eval slice env) (fun i s₂=>s₂.TypeIs o T∧wpAny (model prog w) A (getItem o i) Q E s₂) E s₁) E s):
 wpAny (model prog w) A (eval (.Subscript value slice pos) env) Q E s:=by
 refine Subscript_ (wpAny_mono h (fun o s₁ h₁=>wpAny_mono h₁ (fun i s₂ h₂=>?_) fun _ _ x=>x) fun _ _ x=>x)
 obtain⟨hT,h₂⟩:=h₂
 unfold subscriptTail
 refine wpAny_bind ?_
 rw[getitemInPython_of_ne hT.not_modules]
 refine wpAny_bind (wpAny_specialOf hT hl ?_)
 have fin:wpAny (model prog w) A (subscripted slice false o i) (fun r s₃=>wpAny (model prog w) A (letTemporaryGo value o r>>=fun _=>pure r) Q E s₃) E s₂:=by
  rw[hs o i]
  exact wpAny_operating (wpAny_mono h₂ (fun r s₃ h₃=>wpAny_bind (wpAny_letTemporaryGo (wpAny_pure h₃))) fun _ _ x=>x)
 first
  |exact wpAny_pure (wpAny_bind fin)
  |exact wpAny_bind (wpAny_pure (wpAny_bind fin))
  |exact wpAny_bind fin
theorem tH{X:Cx}{pins:List (Addr×Obj)}{σ:St}{H:Hp}{s:Shared}{a:Addr}{y:V}{o:Option V}(I:Inv X pins σ H s)(g:ji H a y o):s.TypeIs (.ref a) "dict":=by
 rcases g with⟨aw,k,e,_,_⟩ | ⟨aw,k,b,e,_,_,_⟩
 ·obtain⟨_,_,vs,_,dd⟩:=lz I.hok e
  exact dd.typeIs
 ·obtain⟨_,_,xs,_,dd⟩:=jJ I.hok e
  exact dd.typeIs
def JD(td ty:TE):TE:=fun σ H Q=>td σ H fun x H1=>ty σ H1 fun y H2=>∃a v,x= .ref a∧ji H2 a y (some v)∧Q v H2
def LV(ty td:TE):TE:=fun σ H Q=>ty σ H fun y H1=>td σ H1 fun x H2=>∃a o,x= .ref a∧ji H2 a y o∧Q (.bl o.isSome) H2
def Jz(td ty tv:TE):TS:=fun D σ H=>tv σ H fun v H1=>td σ H1 fun x H2=>ty σ H2 fun y H3=>∃a H4,x= .ref a∧DPut H3 a y v H4∧D.nx σ H4
section
variable{X:Cx}{o i e value:Expr}{pos pos' L6:Pos}{td ty tv:TE}
theorem DM(hu:X.A.units+1<cLine)(ho:PE X o td)(hi:PE X i ty)(hs:Fb i):PE X (.Subscript o i pos) (JD td ty):=by
 intro pins s σ H Q I h
 refine Ef PySem.F.slot_dict_getitem.lookup hs (bK (ho pins s σ H _ I h) fun u s1 ⟨x,H1,I1,rx,q1⟩=>bK (hi pins s1 σ H1 _ I1 q1) fun iv s2 ⟨y,H2,I2,ry,a,v,ex,g,q2⟩=>?_)
 subst ex
 obtain rfl:u=Value.ref a:=rx
 exact⟨tH I2 g,yp hu I2 g ry fun w' s3 I3 vj=>⟨v,H2,I3,vj,q2⟩⟩
theorem Gi(hu:X.A.units+1<cLine)(hi:PE X i ty)(ho:PE X o td):PC X .In i o (LV ty td):=by
 intro pins s σ H Q I h
 refine bK (hi pins s σ H _ I h) fun iv s1 ⟨y,H1,I1,ry,q1⟩=>bK (ho pins s1 σ H1 _ I1 q1) fun u s2 ⟨x,H2,I2,rx,a,ov,ex,g,q2⟩=>?_
 subst ex
 obtain rfl:u=Value.ref a:=rx
 exact HC hu I2 g ry fun s3 I3=>⟨.bl ov.isSome,H2,I3,rfl,q2⟩
theorem DV(hu:X.A.units+1<cLine)(ho:PE X o td)(hi:PE X i ty)(hv:PE X value tv)(hs:swapsWith value (some (.Subscript o i pos')) pos.line X.env=pure false):
 PS X (.Assign [.Subscript o i pos'] value pos) (Jz td ty tv):=by
 intro pins s σ H D I h
 refine wpAny_Assign_Subscript (bK (hv pins s σ H _ I h) fun r s1 ⟨v,H1,I1,rv,q1⟩=>bK (ho pins s1 σ H1 _ I1 q1) fun u s2 ⟨x,H2,I2,rx,q2⟩=>bK (hi pins s2 σ H2 _ I2 q2) fun iv s3 ⟨y,H3,I3,ry,a,H4,ex,g,q3⟩=>?_) hs
 subst ex
 obtain rfl:u=Value.ref a:=rx
 exact yr hu I3 g ry rv fun s4 I4=>⟨σ,H4,I4,q3⟩
end
theorem tI{P:Program}{w:World}{H:Hp}(h:Heap)(hb:sysModules<h.objs.size):ObjOk P w H (h.push {cls:= .type "dict",data:= .dict #[]}) h.objs.size (.dT []):=
 ⟨Nat.zero_le _,beq_eq_false_iff_ne.mpr (Ne.symm (Nat.ne_of_lt hb)),[], .nil,_,#[],0,Heap.get?_push_size _ rfl,⟨rfl,rfl,rfl⟩,rfl,rfl,List.nodup_nil⟩
def G2:TE:=fun _ H Q=>∀p,H p=none→Q (.ref p) (upd H p (.dT []))
section
variable{X:Cx}{pos:Pos}
theorem Bu:PE X (.Dict [] [] pos) G2:=fun pins s σ H Q I h=>
 wpAny_Dict_empty ⟨.ref s.heap.objs.size,_,I.laid (a:=s.heap.objs.size) (o:= .dT []) (t':=s.toks) (fun _ _ q=>Heap.get?_push_of_some _ q) (Nat.le_refl _) (tI s.heap I.big),rfl,h _ (I.hok.fresh (Nat.le_refl _))⟩
end
def B6:List (TE×TE)→St→Hp→(List (V×V)→Hp→Prop)→Prop
 |[],_,H,Q=>Q [] H
 |(tk,tv)::r,σ,H,Q=>tk σ H fun x H1=>tv σ H1 fun y H2=>B6 r σ H2 fun ps H3=>Q ((x,y)::ps) H3
abbrev VV:List (V×V)→List (Value×Value)→Prop:=Paired fun p q=>RelV p.1 q.1∧RelV p.2 q.2
def Ku(X:Cx)(pos:Pos)(keys:List (Option Expr))(values:List Expr)(Kp:List (TE×TE)):Prop:=
 ∀(pins:List (Addr×Obj)) (s:Shared) (σ:St) (H:Hp) (Q:List (V×V)→Hp→Prop),Inv X pins σ H s→B6 Kp σ H Q→
  wpAny (model X.prog X.w) X.A (evalPairs (pairTrees keys values X.env pos)) (fun vs s'=>∃ps H',Inv X pins σ H' s'∧VV ps vs∧Q ps H') X.xe s
theorem DU{X:Cx}{pos:Pos}:Ku X pos [] [] []:=fun pins s σ H Q I h=>pairTrees_nil_walk ⟨[],H,I, .nil,h⟩
theorem By{X:Cx}{pos:Pos}{k v:Expr}{ks:List (Option Expr)}{vs:List Expr}{tk tv:TE}{Kp:List (TE×TE)}(hk:PE X k tk)(hv:PE X v tv)(hr:Ku X pos ks vs Kp):
 Ku X pos (some k::ks) (v::vs) ((tk,tv)::Kp):=fun pins s σ H Q I h=>
 pairTrees_cons_walk (bK (hk pins s σ H _ I h) fun u s1 ⟨x,H1,I1,rx,q1⟩=>bK (hv pins s1 σ H1 _ I1 q1) fun w2 s2 ⟨y,H2,I2,ry,q2⟩=>
  bK (hr pins s2 σ H2 _ I2 q2) fun ws s3 ⟨ps,H3,I3,rel,q3⟩=>⟨(x,y)::ps,H3,I3, .cons ⟨rx,ry⟩ rel,q3⟩)
structure M1 (X:Cx) (o:Expr) (m:Str) (apos:Pos) (e:Expr) (aQ:Pos):Prop where
 base:attributeBase o m X.env (eval o X.env)=eval o X.env
 few:((backTo aQ (starEach [e] X.env)).all (fun x=>!x.1)&&(backToKw aQ (keywordEach [] X.env)).all (fun x=>x.1.isSome)
  &&decide (([e]:List Expr).length+([]:List Keyword).length+(if ([]:List Keyword).isEmpty then 0 else 1)<30))=true
 line:(apos.endLine==aQ.line)=true
 trees:backTo aQ (starEach [e] X.env)=[(false,eval e X.env)]
structure M2 (X:Cx) (o:Expr) (m:Str) (apos:Pos) (e f:Expr) (aQ:Pos):Prop where
 base:attributeBase o m X.env (eval o X.env)=eval o X.env
 few:((backTo aQ (starEach [e,f] X.env)).all (fun x=>!x.1)&&(backToKw aQ (keywordEach [] X.env)).all (fun x=>x.1.isSome)
  &&decide (([e,f]:List Expr).length+([]:List Keyword).length+(if ([]:List Keyword).isEmpty then 0 else 1)<30))=true
 line:(apos.endLine==aQ.line)=true
 trees:backTo aQ (starEach [e,f] X.env)=[(false,eval e X.env),(false,eval f X.env)]
def Hj(H:Hp)(a:Addr):Prop:=(∃aw,Rd H a (.dK aw))∨∃aw,Rd H a (.dT aw)
theorem vM{X:Cx}{pins:List (Addr×Obj)}{σ:St}{H:Hp}{s:Shared}{a:Addr}(I:Inv X pins σ H s)(d:Hj H a):
 s.TypeIs (.ref a) "dict"∧(∀b,Value.ref a= .ref b→∃ob,s.heap.get? b=some ob∧ob.dict=none)∧(a==sysModules)=false:=by
 rcases d with⟨aw,e⟩ | ⟨aw,e⟩
 ·obtain⟨_,hd,vs,_,dd⟩:=lz I.hok e
  refine⟨dd.typeIs,fun b q=>?_,hd⟩
  cases q
  obtain⟨ob,_,_,h1,h2,_⟩:=dd
  exact⟨ob,h1,h2.2.1⟩
 ·obtain⟨_,hd,xs,_,dd⟩:=jJ I.hok e
  refine⟨dd.typeIs,fun b q=>?_,hd⟩
  cases q
  obtain⟨ob,_,_,h1,h2,_⟩:=dd
  exact⟨ob,h1,h2.2.1⟩
section
variable{X:Cx}{pins:List (Addr×Obj)}{σ:St}{H:Hp}{s:Shared}{a:Addr}{y d:V}{u r:Value}{o:Option V}{A:Around}{E:Value→Shared→Prop}
theorem Fl{Q:Value→Shared→Prop}(hu:A.units+1<cLine)(I:Inv X pins σ H s)(g:ji H a y o)(ry:RelV y u)(h:∀w' s',Inv X pins σ H s'→RelV (o.getD .non) w'→Q w' s'):
 wpAny (model X.prog X.w) A (call (.builtin "dict.get") [.ref a,u]) Q E s:=by
 rcases g with⟨aw,k,e,ey,l⟩ | ⟨aw,k,b,e,ey,eb,l⟩
 ·subst ey
  obtain⟨z,hd,vs,rel,dd⟩:=lz I.hok e
  refine call_meetsIn PySem.F.slot_dict_get dd.typeIs PySem.F.entry_dict_get (PySem.F.args_dict_get_2 _ _) (meets_dict_get (aU X.prog X.w) a (lD ry) hd) ⟨_,dd.mapOf,h _ _ (I.tok _) ?_⟩
  rw[l]
  exact(rel.val k).getD rfl
 ·subst ey
  cases (show u=Value.ref b from ry)
  obtain⟨z,hd,xs,rel,dd⟩:=jJ I.hok e
  refine call_meetsIn PySem.F.slot_dict_get dd.typeIs PySem.F.entry_dict_get (PySem.F.args_dict_get_2 _ _) (meetsH_dict_get (tupleKind (aU X.prog X.w)) a b hd) ⟨tupleKind_room_in1 hu,k,xs,g7 I.hok eb,dd,h _ _ (I.tok _) ?_⟩
  rw[l]
  exact(rel.val k).getD rfl
theorem Fm{Q:Value→Shared→Prop}(hu:A.units+1<cLine)(I:Inv X pins σ H s)(g:ji H a y o)(ry:RelV y u)(rd:RelV d r)(h:∀w' s',Inv X pins σ H s'→RelV (o.getD d) w'→Q w' s'):
 wpAny (model X.prog X.w) A (call (.builtin "dict.get") [.ref a,u,r]) Q E s:=by
 rcases g with⟨aw,k,e,ey,l⟩ | ⟨aw,k,b,e,ey,eb,l⟩
 ·subst ey
  obtain⟨z,hd,vs,rel,dd⟩:=lz I.hok e
  refine call_meetsIn PySem.F.slot_dict_get dd.typeIs PySem.F.entry_dict_get (PySem.F.args_dict_get_3 _ _ _) (meets_dict_get_default (aU X.prog X.w) a (lD ry) hd r) ⟨_,dd.mapOf,h _ _ (I.tok _) ?_⟩
  rw[l]
  exact(rel.val k).getD rd
 ·subst ey
  cases (show u=Value.ref b from ry)
  obtain⟨z,hd,xs,rel,dd⟩:=jJ I.hok e
  refine call_meetsIn PySem.F.slot_dict_get dd.typeIs PySem.F.entry_dict_get (PySem.F.args_dict_get_3 _ _ _) (meetsH_dict_get_default (tupleKind (aU X.prog X.w)) a b hd r) ⟨tupleKind_room_in1 hu,k,xs,g7 I.hok eb,dd,h _ _ (I.tok _) ?_⟩
  rw[l]
  exact(rel.val k).getD rd
end
def G0(td ty:TE):TE:=fun σ H Q=>td σ H fun x H1=>∃a,x= .ref a∧Hj H1 a∧ty σ H1 fun y H2=>∃o,ji H2 a y o∧Q (o.getD .non) H2
def G1(td ty tx:TE):TE:=fun σ H Q=>td σ H fun x H1=>∃a,x= .ref a∧Hj H1 a∧ty σ H1 fun y H2=>tx σ H2 fun z H3=>∃o,ji H3 a y o∧Q (o.getD z) H3
section
variable{X:Cx}{o e f:Expr}{apos aQ:Pos}{td ty tx:TE}
theorem Bs(hu:X.A.units+1<cLine)(ho:PE X o td)(he:PE X e ty)(m:M1 X o "get" apos e aQ):PE X (.Call (.Attribute o "get" apos) [e] [] aQ) (G0 td ty):=by
 intro pins s σ H Q I h
 refine wpAny_Call_method m.base m.few m.line PySem.F.plainAttrs_dict PySem.F.slot_dict_get PySem.F.type_dict_get (bK (ho pins s σ H _ I h) fun u s1 ⟨x,H1,I1,rx,a,ex,d,q1⟩=>?_)
 subst ex
 obtain rfl:u=Value.ref a:=rx
 obtain⟨t1,t2,_⟩:=vM I1 d
 refine⟨t1,t2,?_⟩
 rw[m.trees]
 refine Calls.callWith_builtin rfl (Calls.evalArgs_plain (Calls.spliced_cons (bK (he pins s1 σ H1 _ I1 q1) fun iv s2 ⟨y,H2,I2,ry,ov,g,q2⟩=>Calls.spliced_nil ?_)))
 exact Fl hu I2 g ry fun w' s3 I3 vj=>⟨_,H2,I3,vj,q2⟩
theorem Bt(hu:X.A.units+1<cLine)(ho:PE X o td)(he:PE X e ty)(hf:PE X f tx)(m:M2 X o "get" apos e f aQ):PE X (.Call (.Attribute o "get" apos) [e,f] [] aQ) (G1 td ty tx):=by
 intro pins s σ H Q I h
 refine wpAny_Call_method m.base m.few m.line PySem.F.plainAttrs_dict PySem.F.slot_dict_get PySem.F.type_dict_get (bK (ho pins s σ H _ I h) fun u s1 ⟨x,H1,I1,rx,a,ex,d,q1⟩=>?_)
 subst ex
 obtain rfl:u=Value.ref a:=rx
 obtain⟨t1,t2,_⟩:=vM I1 d
 refine⟨t1,t2,?_⟩
 rw[m.trees]
 refine Calls.callWith_builtin rfl (Calls.evalArgs_plain (Calls.spliced_cons (bK (he pins s1 σ H1 _ I1 q1) fun iv s2 ⟨y,H2,I2,ry,q2⟩=>
  Calls.spliced_cons (bK (hf pins s2 σ H2 _ I2 q2) fun fv s3 ⟨z,H3,I3,rz,ov,g,q3⟩=>Calls.spliced_nil ?_))))
 exact Fm hu I3 g ry rz fun w' s4 I4 vj=>⟨_,H3,I4,vj,q3⟩
end
section
variable{X:Cx}{pins:List (Addr×Obj)}{σ:St}{H:Hp}{s:Shared}{a:Addr}{aw:List (Key×V)}{A:Around}{E:Value→Shared→Prop}
end
section
variable{X:Cx}{pins:List (Addr×Obj)}{σ:St}{H:Hp}{s:Shared}{a:Addr}{y:V}{u:Value}{A:Around}{E:Value→Shared→Prop}
end
end L2
namespace L3
open PySem PySem.Spec L2
open PyProof.Rows hiding St
inductive Rs (α:Type) where
 |ok (a:α) | ex (n:Nat)
def M(α:Type):=Option (Rs α)
def M.ret{α:Type}(a:α):M α:=some (.ok a)
def M.bind{α β:Type}(m:M α)(k:α→M β):M β:=match m with
 |none=>none
 |some (.ex n)=>some (.ex n)
 |some (.ok a)=>k a
def M.stuck{α:Type}:M α:=none
def M.raise{α:Type}(n:Nat):M α:=some (.ex n)
instance:Monad M where
 pure:=M.ret
 bind:=M.bind
@[simp] theorem aq{α β:Type}(a:α)(k:α→M β):(M.ret a>>=k)=k a:=rfl
@[simp] theorem Ff{α β:Type}(a:α)(k:α→M β):((pure a:M α)>>=k)=k a:=rfl
@[simp] theorem Fg{α β:Type}(n:Nat)(k:α→M β):(M.raise n>>=k)=M.raise n:=rfl
@[simp] theorem Fh{α β:Type}(k:α→M β):((M.stuck:M α)>>=k)=M.stuck:=rfl
theorem M.cs{α:Type}(m:M α):m=M.stuck∨(∃n,m=M.raise n)∨∃a,m=M.ret a:=by
 match m with
 |none=>exact .inl rfl
 |some (.ex n)=>exact .inr (.inl ⟨n,rfl⟩)
 |some (.ok a)=>exact .inr (.inr ⟨a,rfl⟩)
theorem fJ{α:Type}{a b:α}(h:M.ret a=M.ret b):a=b:=by
 have h:some (Rs.ok a)=some (Rs.ok b):=h
 cases h
 rfl
theorem iG{α:Type}{a:α}(h:M.stuck=M.ret a):False:=by
 have h:none=some (Rs.ok a):=h
 cases h
theorem BK{α:Type}{n:Nat}{a:α}(h:M.raise n=M.ret a):False:=by
 have h:some (Rs.ex n)=some (Rs.ok a):=h
 cases h
theorem gk{α β:Type}{m:M α}{k:α→M β}{r:β}(h:(m>>=k)=M.ret r):∃a,m=M.ret a∧k a=M.ret r:=by
 rcases m.cs with e | ⟨n,e⟩ | ⟨a,e⟩
 ·subst e;exact(iG h).elim
 ·subst e;exact(BK h).elim
 ·subst e;exact⟨a,rfl,h⟩
def Hk(h:Heap)(ea D:Addr):Prop:=∃ox,h.get? ea=some ox∧ox.cls= .ref D
def Nf(ea D:Addr):HO:= .ext fun h=>Hk h ea D
inductive D where
 |non | bl (b:Bool) | int (i:Int) | str (x:Str) | raw (v:V) | exc (C:Addr) | scr (l:List Int) | tup (l:List D) | lst (l:List D)
 |dct (ks:List (List Key)) (l:List D) | dci (ks:List Key) (l:List D)
instance:Inhabited D:=⟨.non⟩
def lim:Nat:=4096
theorem eE:lim<sizeLine:=by rw[sizeLine_eq];decide
mutual
def Den(K:W.Frag)(F:Hp):D→V→Prop
 | .non,v=>v= .non
 | .bl b,v=>v= .bl b
 | .int i,v=>v= .int i
 | .str x,v=>v= .str x∧x.length≤lim
 | .raw u,v=>v=u
 | .exc C,v=>∃ea,v= .ref ea∧F ea=some (Nf ea C)
 | .scr ns,v=>∃a,v= .ref a∧SqL K F a (ns.map V.int)∧ns.length≤lim
 | .tup ds,v=>∃a vs,v= .ref a∧F a=some (.tup vs)∧DenL K F ds vs∧ds.length≤lim
 | .lst ds,v=>∃a vs,v= .ref a∧F a=some (.lst vs)∧DenL K F ds vs∧ds.length≤lim
 | .dct ks ds,v=>∃a ob vs,v= .ref a∧F a=some (.frz ob (.dT (ks.zip vs)))∧DenL K F ds vs∧ks.length=ds.length∧ds.length≤lim
 | .dci ks ds,v=>∃a ob vs,v= .ref a∧F a=some (.frz ob (.dK (ks.zip vs)))∧DenL K F ds vs∧ks.length=ds.length∧ds.length≤lim
def DenL(K:W.Frag)(F:Hp):List D→List V→Prop
 |[],vs=>vs=[]
 |d::ds,vs=>∃v r,vs=v::r∧Den K F d v∧DenL K F ds r
end
theorem Same.rd{H H':Hp}{a:Addr}{u:HO}(e:Same H H')(h:Rd H a u):Rd H' a u:=by
 rcases h with h | ⟨o,h⟩
 ·exact .inl (e _ _ h)
 ·exact .inr ⟨o,e _ _ h⟩
theorem Same.tup{K:W.Frag}{H H':Hp}{a:Addr}{xs:List V}(e:Same H H')(h:SqT K H a xs):SqT K H' a xs:=by
 rcases h with h | h
 ·exact .inl (Same.rd e h)
 ·exact .inr h
section
variable{K:W.Frag}{F F':Hp}
mutual
theorem Den.mono(e:Same F F'):∀{d:D}{v:V},Den K F d v→Den K F' d v
 | .non,_,h=>h
 | .bl _,_,h=>h
 | .int _,_,h=>h
 | .str _,_,h=>h
 | .raw _,_,h=>h
 | .exc _,_,⟨a,h1,h2⟩=>⟨a,h1,e _ _ h2⟩
 | .scr _,_,⟨a,h1,h2,h3⟩=>⟨a,h1,Same.seq e h2,h3⟩
 | .tup _,_,⟨a,vs,h1,h2,h3,h4⟩=>⟨a,vs,h1,e _ _ h2,DenL.mono e h3,h4⟩
 | .lst _,_,⟨a,vs,h1,h2,h3,h4⟩=>⟨a,vs,h1,e _ _ h2,DenL.mono e h3,h4⟩
 | .dct _ _,_,⟨a,ob,vs,h1,h2,h3,h4⟩=>⟨a,ob,vs,h1,e _ _ h2,DenL.mono e h3,h4⟩
 | .dci _ _,_,⟨a,ob,vs,h1,h2,h3,h4⟩=>⟨a,ob,vs,h1,e _ _ h2,DenL.mono e h3,h4⟩
theorem DenL.mono(e:Same F F'):∀{ds:List D}{vs:List V},DenL K F ds vs→DenL K F' ds vs
 |[],_,h=>h
 |_::_,_,⟨v,r,h1,h2,h3⟩=>⟨v,r,h1,Den.mono e h2,DenL.mono e h3⟩
end
theorem DenL.nil:DenL K F [] []:=rfl
theorem DenL.cons{d:D}{v:V}{ds:List D}{vs:List V}(h:Den K F d v)(r:DenL K F ds vs):DenL K F (d::ds) (v::vs):=⟨v,vs,rfl,h,r⟩
theorem DenL.len:∀{ds:List D}{vs:List V},DenL K F ds vs→ds.length=vs.length
 |[],_,h=>by cases (show _=_ from h);rfl
 |_::ds,_,⟨v,r,h1,_,h3⟩=>by subst h1;rw[List.length_cons,List.length_cons,DenL.len h3]
theorem DenL.get:∀{ds:List D}{vs:List V}{i:Nat}{d:D},DenL K F ds vs→ds[i]? =some d→∃v,vs[i]? =some v∧Den K F d v
 |[],_,_,_,_,e=>by simp at e
 |d::ds,_,0,_,⟨v,r,h1,h2,h3⟩,e=>by subst h1;simp at e;subst e;exact⟨v,rfl,h2⟩
 |d::ds,_,i+1,_,⟨v,r,h1,h2,h3⟩,e=>by
  subst h1
  obtain⟨w,e1,e2⟩:=DenL.get (i:=i) h3 (by simpa using e)
  exact⟨w,by simpa using e1,e2⟩
theorem DenL.at:∀{ds:List D}{vs:List V}{i:Nat}{v:V},DenL K F ds vs→vs[i]? =some v→∃d,ds[i]? =some d∧Den K F d v
 |[],_,_,_,h,e=>by cases (show _=_ from h);simp at e
 |d::ds,_,0,_,⟨v,r,h1,h2,h3⟩,e=>by subst h1;simp at e;subst e;exact⟨d,rfl,h2⟩
 |d::ds,_,i+1,_,⟨v,r,h1,h2,h3⟩,e=>by
  subst h1
  obtain⟨w,e1,e2⟩:=DenL.at (i:=i) h3 (by simpa using e)
  exact⟨w,by simpa using e1,e2⟩
theorem DenL.append:∀{ds es:List D}{vs ws:List V},DenL K F ds vs→DenL K F es ws→DenL K F (ds++es) (vs++ws)
 |[],_,_,_,h,h'=>by cases (show _=_ from h);exact h'
 |d::ds,_,_,_,⟨v,r,h1,h2,h3⟩,h'=>by subst h1;exact⟨v,_,rfl,h2,DenL.append h3 h'⟩
theorem DenL.take:∀{ds:List D}{vs:List V}(n:Nat),DenL K F ds vs→DenL K F (ds.take n) (vs.take n)
 |_,_,0,_=>by simp[List.take];rfl
 |[],_,_+1,h=>by cases (show _=_ from h);rfl
 |d::ds,_,n+1,⟨v,r,h1,h2,h3⟩=>by subst h1;exact⟨v,_,rfl,h2,DenL.take n h3⟩
theorem DenL.drop:∀{ds:List D}{vs:List V}(n:Nat),DenL K F ds vs→DenL K F (ds.drop n) (vs.drop n)
 |_,_,0,h=>by simpa using h
 |[],_,_+1,h=>by cases (show _=_ from h);rfl
 |d::ds,_,n+1,⟨v,r,h1,h2,h3⟩=>by subst h1;exact DenL.drop n h3
theorem DenL.ints(ns:List Int):DenL K F (ns.map D.int) (ns.map V.int):=by
 induction ns with
 |nil=>rfl
 |cons n ns ih=>exact .cons rfl ih
end
structure Ext (F H F' H':Hp):Prop where
 hh:Same H H'
 ff:Same F F'
 fh:Same F' H'
 new:∀a,H a≠none→F' a=F a∨∃ts,H a=some (.tup ts)
theorem Ext.old{F H F' H':Hp}(e:Ext F H F' H'){a:Addr}{o:HO}(h:H a=some o)(hn:∀ts,o≠ .tup ts):F' a=F a:=by
 rcases e.new a (by rw[h];exact fun z=>nomatch z) with q | ⟨ts,q⟩
 ·exact q
 ·rw[h] at q;cases q;exact absurd rfl (hn ts)
theorem Ext.refl{F H:Hp}(h:Same F H):Ext F H F H:=⟨Same.refl _,Same.refl _,h,fun _ _=> .inl rfl⟩
theorem Ext.trans{F H F' H' F'' H'':Hp}(a:Ext F H F' H')(b:Ext F' H' F'' H''):Ext F H F'' H'':=
 ⟨a.hh.trans b.hh,a.ff.trans b.ff,b.fh,fun c hc=>by
  have:H' c≠none:=by
   cases q:H c with
   |none=>exact absurd q hc
   |some o=>rw[a.hh c o q];exact fun z=>nomatch z
  rcases a.new c hc with p | p
  ·rcases b.new c this with q | ⟨ts,q⟩
   ·exact .inl (q.trans p)
   ·cases z:H c with
    |none=>exact absurd z hc
    |some o=>
     rw[a.hh c o z] at q
     exact .inr ⟨ts,q⟩
  ·exact .inr p⟩
theorem Ext.lay{F H:Hp}{a:Addr}{o:HO}(h:Same F H)(n:H a=none):Ext F H (upd F a o) (upd H a o):=by
 have nf:F a=none:=Same.free h n
 refine⟨fun b u e=>?_,fun b u e=>?_,fun b u e=>?_,fun b hb=>?_⟩
 ·rw[ax (a7 e n)];exact e
 ·rw[ax (a7 e nf)];exact e
 ·by_cases q:b=a
  ·subst q;rw[aD] at e⊢;exact e
  ·rw[ax q] at e⊢;exact h b u e
 ·exact .inl (ax fun z=>hb (by rw[z];exact n))
theorem Ext.free{F H:Hp}{a:Addr}{o:HO}(h:Same F H)(n:H a=none):Ext F H F (upd H a o):=
 ⟨fun b u e=>by rw[ax (a7 e n)];exact e,Same.refl _,fun b u e=>by rw[ax (a7 (h b u e) n)];exact h b u e,fun _ _=> .inl rfl⟩
theorem Ext.tup{F H:Hp}{a:Addr}{ts:List V}(h:Same F H)(e:H a=some (.tup ts)):Ext F H (upd F a (.tup ts)) H:=by
 refine⟨Same.refl _,fun b u q=>?_,fun b u q=>?_,fun b hb=>?_⟩
 ·by_cases z:b=a
  ·subst z;rw[aD,←e];exact h b u q
  ·rw[ax z];exact q
 ·by_cases z:b=a
  ·subst z;rw[aD] at q;rw[e];exact q
  ·rw[ax z] at q;exact h b u q
 ·by_cases z:b=a
  ·subst z;exact .inr ⟨ts,e⟩
  ·exact .inl (ax z)
def WP(K:W.Frag)(Xw:Nat→Hp→Prop)(F H:Hp)(m:M D)(Q:VK):Prop:=
 match m with
 |none=>False
 |some (.ok d)=>∀v H' F',Ext F H F' H'→Den K F' d v→Q v H'
 |some (.ex n)=>∀F' H',Ext F H F' H'→Xw n H'
def WPL(K:W.Frag)(Xw:Nat→Hp→Prop)(F H:Hp)(m:M (List D))(Q:List V→Hp→Prop):Prop:=
 match m with
 |none=>False
 |some (.ok ds)=>∀vs H' F',Ext F H F' H'→DenL K F' ds vs→Q vs H'
 |some (.ex n)=>∀F' H',Ext F H F' H'→Xw n H'
def WPB(Xw:Nat→Hp→Prop)(F H:Hp)(m:M Bool)(Q:Bool→Hp→Prop):Prop:=
 match m with
 |none=>False
 |some (.ok b)=>∀H' F',Ext F H F' H'→Q b H'
 |some (.ex n)=>∀F' H',Ext F H F' H'→Xw n H'
section
variable{K:W.Frag}{Xw:Nat→Hp→Prop}{F F' H H':Hp}{Q:VK}
theorem WP.ext{m:M D}(e:Ext F H F' H')(h:WP K Xw F H m Q):WP K Xw F' H' m Q:=by
 match m,h with
 |none,h=>exact h
 |some (.ok d),h=>exact fun v H2 F2 e2 q=>h v H2 F2 (e.trans e2) q
 |some (.ex n),h=>exact fun F2 H2 e2=>h F2 H2 (e.trans e2)
theorem WPL.ext{m:M (List D)}{Q:List V→Hp→Prop}(e:Ext F H F' H')(h:WPL K Xw F H m Q):WPL K Xw F' H' m Q:=by
 match m,h with
 |none,h=>exact h
 |some (.ok d),h=>exact fun v H2 F2 e2 q=>h v H2 F2 (e.trans e2) q
 |some (.ex n),h=>exact fun F2 H2 e2=>h F2 H2 (e.trans e2)
theorem WPB.ext{m:M Bool}{Q:Bool→Hp→Prop}(e:Ext F H F' H')(h:WPB Xw F H m Q):WPB Xw F' H' m Q:=by
 match m,h with
 |none,h=>exact h
 |some (.ok d),h=>exact fun H2 F2 e2=>h H2 F2 (e.trans e2)
 |some (.ex n),h=>exact fun F2 H2 e2=>h F2 H2 (e.trans e2)
theorem WP.fin{d:D}{v:V}(h:WP K Xw F H (M.ret d) Q)(e:Ext F H F' H')(q:Den K F' d v):Q v H':=h v H' F' e q
theorem WP.now{d:D}{v:V}(h:WP K Xw F H (M.ret d) Q)(s:Same F H)(q:Den K F d v):Q v H:=h v H F (Ext.refl s) q
theorem WP.bind{m:M D}{k:D→M D}(h:WP K Xw F H (m>>=k) Q):WP K Xw F H m fun v H1=>∃F1 d,Ext F H F1 H1∧Den K F1 d v∧WP K Xw F1 H1 (k d) Q:=by
 match m,h with
 |none,h=>exact h
 |some (.ok d),h=>exact fun v H2 F2 e2 q=>⟨F2,d,e2,q,WP.ext e2 (show WP K Xw F H (k d) Q from h)⟩
 |some (.ex n),h=>exact h
theorem WP.bindL{m:M (List D)}{k:List D→M D}(h:WP K Xw F H (m>>=k) Q):WPL K Xw F H m fun vs H1=>∃F1 ds,Ext F H F1 H1∧DenL K F1 ds vs∧WP K Xw F1 H1 (k ds) Q:=by
 match m,h with
 |none,h=>exact h
 |some (.ok d),h=>exact fun v H2 F2 e2 q=>⟨F2,d,e2,q,WP.ext e2 (show WP K Xw F H (k d) Q from h)⟩
 |some (.ex n),h=>exact h
theorem WP.bindB{m:M Bool}{k:Bool→M D}(h:WP K Xw F H (m>>=k) Q):WPB Xw F H m fun b H1=>∃F1,Ext F H F1 H1∧WP K Xw F1 H1 (k b) Q:=by
 match m,h with
 |none,h=>exact h
 |some (.ok d),h=>exact fun H2 F2 e2=>⟨F2,e2,WP.ext e2 (show WP K Xw F H (k d) Q from h)⟩
 |some (.ex n),h=>exact h
theorem WPB.bind{m:M D}{k:D→M Bool}{Q:Bool→Hp→Prop}(h:WPB Xw F H (m>>=k) Q):WP K Xw F H m fun v H1=>∃F1 d,Ext F H F1 H1∧Den K F1 d v∧WPB Xw F1 H1 (k d) Q:=by
 match m,h with
 |none,h=>exact h
 |some (.ok d),h=>exact fun v H2 F2 e2 q=>⟨F2,d,e2,q,WPB.ext e2 (show WPB Xw F H (k d) Q from h)⟩
 |some (.ex n),h=>exact h
theorem WPB.bindB{m:M Bool}{k:Bool→M Bool}{Q:Bool→Hp→Prop}(h:WPB Xw F H (m>>=k) Q):WPB Xw F H m fun b H1=>∃F1,Ext F H F1 H1∧WPB Xw F1 H1 (k b) Q:=by
 match m,h with
 |none,h=>exact h
 |some (.ok d),h=>exact fun H2 F2 e2=>⟨F2,e2,WPB.ext e2 (show WPB Xw F H (k d) Q from h)⟩
 |some (.ex n),h=>exact h
theorem WPL.bind{m:M D}{k:D→M (List D)}{Q:List V→Hp→Prop}(h:WPL K Xw F H (m>>=k) Q):WP K Xw F H m fun v H1=>∃F1 d,Ext F H F1 H1∧Den K F1 d v∧WPL K Xw F1 H1 (k d) Q:=by
 match m,h with
 |none,h=>exact h
 |some (.ok d),h=>exact fun v H2 F2 e2 q=>⟨F2,d,e2,q,WPL.ext e2 (show WPL K Xw F H (k d) Q from h)⟩
 |some (.ex n),h=>exact h
theorem WPL.bindL{m:M (List D)}{k:List D→M (List D)}{Q:List V→Hp→Prop}(h:WPL K Xw F H (m>>=k) Q):WPL K Xw F H m fun vs H1=>∃F1 ds,Ext F H F1 H1∧DenL K F1 ds vs∧WPL K Xw F1 H1 (k ds) Q:=by
 match m,h with
 |none,h=>exact h
 |some (.ok d),h=>exact fun v H2 F2 e2 q=>⟨F2,d,e2,q,WPL.ext e2 (show WPL K Xw F H (k d) Q from h)⟩
 |some (.ex n),h=>exact h
theorem WP.mono{m:M D}{Q':VK}(h:WP K Xw F H m Q)(k:∀v H',Q v H'→Q' v H'):WP K Xw F H m Q':=by
 match m,h with
 |none,h=>exact h
 |some (.ok d),h=>exact fun v H2 F2 e2 q=>k _ _ (h v H2 F2 e2 q)
 |some (.ex n),h=>exact h
theorem WPL.mono{m:M (List D)}{Q Q':List V→Hp→Prop}(h:WPL K Xw F H m Q)(k:∀v H',Q v H'→Q' v H'):WPL K Xw F H m Q':=by
 match m,h with
 |none,h=>exact h
 |some (.ok d),h=>exact fun v H2 F2 e2 q=>k _ _ (h v H2 F2 e2 q)
 |some (.ex n),h=>exact h
theorem WPB.mono{m:M Bool}{Q Q':Bool→Hp→Prop}(h:WPB Xw F H m Q)(k:∀v H',Q v H'→Q' v H'):WPB Xw F H m Q':=by
 match m,h with
 |none,h=>exact h
 |some (.ok d),h=>exact fun H2 F2 e2=>k _ _ (h H2 F2 e2)
 |some (.ex n),h=>exact h
end
inductive C where
 |lst (l:List D) | dct (ks:List (List Key)) (l:List D) | dci (ks:List Key) (l:List D)
def C.d:C→D
 | .lst ds=> .lst ds
 | .dct ks ds=> .dct ks ds
 | .dci ks ds=> .dci ks ds
inductive Sl where
 |fz (d:D) | ow (c:C)
abbrev aX:=List (Option Sl)
def DenC(K:W.Frag)(F:Hp):C→HO→Prop
 | .lst ds,o=>∃vs,o= .lst vs∧DenL K F ds vs∧ds.length≤lim
 | .dct ks ds,o=>∃vs,o= .dT (ks.zip vs)∧DenL K F ds vs∧ks.length=ds.length∧ds.length≤lim
 | .dci ks ds,o=>∃vs,o= .dK (ks.zip vs)∧DenL K F ds vs∧ks.length=ds.length∧ds.length≤lim
theorem DenC.mono{K:W.Frag}{F F':Hp}(e:Same F F'):∀{c:C}{o:HO},DenC K F c o→DenC K F' c o
 | .lst _,_,⟨vs,h1,h2,h3⟩=>⟨vs,h1,DenL.mono e h2,h3⟩
 | .dct _ _,_,⟨vs,h1,h2,h3⟩=>⟨vs,h1,DenL.mono e h2,h3⟩
 | .dci _ _,_,⟨vs,h1,h2,h3⟩=>⟨vs,h1,DenL.mono e h2,h3⟩
theorem DenC.notup{K:W.Frag}{F:Hp}:∀{c:C}{o:HO},DenC K F c o→∀ts,o≠ .tup ts
 | .lst _,_,⟨_,h1,_⟩,ts,z=>by rw[h1] at z;cases z
 | .dct _ _,_,⟨_,h1,_⟩,ts,z=>by rw[h1] at z;cases z
 | .dci _ _,_,⟨_,h1,_⟩,ts,z=>by rw[h1] at z;cases z
def my(ob:Obj):HO→HO
 | .dT aw=> .frz ob (.dT aw)
 | .dK aw=> .frz ob (.dK aw)
 |o=>o
theorem DenC.den{K:W.Frag}{F F':Hp}{a:Addr}{ob:Obj}:∀{c:C}{o:HO},DenC K F c o→Same F F'→F' a=some (my ob o)→Den K F' c.d (.ref a)
 | .lst _,_,⟨vs,h1,h2,h3⟩,e,q=>by subst h1;exact⟨a,vs,rfl,q,DenL.mono e h2,h3⟩
 | .dct _ _,_,⟨vs,h1,h2,h3⟩,e,q=>by subst h1;exact⟨a,ob,vs,rfl,q,DenL.mono e h2,h3⟩
 | .dci _ _,_,⟨vs,h1,h2,h3⟩,e,q=>by subst h1;exact⟨a,ob,vs,rfl,q,DenL.mono e h2,h3⟩
def DenO(K:W.Frag)(F H:Hp):Sl→V→Prop
 | .fz d,v=>Den K F d v
 | .ow c,v=>∃a o,v= .ref a∧H a=some o∧F a=none∧DenC K F c o
structure StE (K:W.Frag) (F H:Hp) (σ:St) (ρ:aX):Prop where
 fh:Same F H
 den:∀(i:Nat) (sl:Sl),ρ[i]? =some (some sl)→∃v,σ[i]? =some (some v)∧DenO K F H sl v
theorem DenO.ext{K:W.Frag}{F H F' H':Hp}(e:Ext F H F' H'):∀{sl:Sl}{v:V},DenO K F H sl v→DenO K F' H' sl v
 | .fz _,_,h=>Den.mono e.ff h
 | .ow _,_,⟨a,o,h1,h2,h3,h4⟩=>⟨a,o,h1,e.hh _ _ h2,by rw[e.old h2 h4.notup];exact h3,DenC.mono e.ff h4⟩
theorem StE.ext{K:W.Frag}{F H F' H':Hp}{σ:St}{ρ:aX}(s:StE K F H σ ρ)(e:Ext F H F' H'):StE K F' H' σ ρ:=
 ⟨e.fh,fun i sl q=>let ⟨v,h1,h2⟩:=s.den i sl q;⟨v,h1,h2.ext e⟩⟩
abbrev DE:=aX→M D
abbrev DT:=aX→M Bool
abbrev DA:=aX→M (List D)
def tD(K:W.Frag)(Xw:Nat→Hp→Prop)(δ:DE):TE:=fun σ H Q=>∃F ρ,StE K F H σ ρ∧WP K Xw F H (δ ρ) Q
def LW(K:W.Frag)(Xw:Nat→Hp→Prop)(δ:DT):TT:=fun σ H Q=>∃F ρ,StE K F H σ ρ∧WPB Xw F H (δ ρ) Q
def M_(K:W.Frag)(Xw:Nat→Hp→Prop)(δ:DA):TA:=fun σ H Q=>∃F ρ,StE K F H σ ρ∧WPL K Xw F H (δ ρ) Q
def PD(X:Cx)(Xw:Nat→Hp→Prop)(e:Expr)(δ:DE):Prop:=PE X e (tD X.K Xw δ)
def ku(X:Cx)(Xw:Nat→Hp→Prop)(e:Expr)(δ:DT):Prop:=PT X e (LW X.K Xw δ)
def lu(X:Cx)(Xw:Nat→Hp→Prop)(es:List Expr)(δ:DA):Prop:=PA X es (M_ X.K Xw δ)
theorem PE.weak{X:Cx}{e:Expr}{t t':TE}(h:PE X e t)(k:∀σ H Q,t' σ H Q→t σ H Q):PE X e t':=fun pins s σ H Q I w=>h pins s σ H Q I (k σ H Q w)
theorem PT.weak{X:Cx}{e:Expr}{t t':TT}(h:PT X e t)(k:∀σ H Q,t' σ H Q→t σ H Q):PT X e t':=fun pins s σ H Q I w=>h pins s σ H Q I (k σ H Q w)
theorem PA.weak{X:Cx}{e:List Expr}{t t':TA}(h:PA X e t)(k:∀σ H Q,t' σ H Q→t σ H Q):PA X e t':=fun pos pins s σ H Q I w=>h pos pins s σ H Q I (k σ H Q w)
def dV(i:Nat):DE:=fun ρ=>match ρ[i]? with
 |some (some (.fz d))=>M.ret d
 |_=>M.stuck
def dC(d:D):DE:=fun _=>M.ret d
def d1(g:D→M D)(a:DE):DE:=fun ρ=>a ρ>>=g
def d2(g:D→D→M D)(a b:DE):DE:=fun ρ=>a ρ>>=fun x=>b ρ>>=fun y=>g x y
def aN:DA:=fun _=>M.ret []
def aC(a:DE)(r:DA):DA:=fun ρ=>a ρ>>=fun x=>r ρ>>=fun xs=>M.ret (x::xs)
def dA(g:List D→M D)(a:DA):DE:=fun ρ=>a ρ>>=g
def zB:D→M Bool
 | .bl b=>M.ret b
 |_=>M.stuck
def b9(a:DE):DT:=fun ρ=>a ρ>>=zB
def CB(a b:DT):DT:=fun ρ=>a ρ>>=fun x=>if x then b ρ else M.ret false
def kr(a b:DT):DT:=fun ρ=>a ρ>>=fun x=>if x then M.ret true else b ρ
def cJ(a:DT):DT:=fun ρ=>a ρ>>=fun x=>M.ret (!x)
def Eu(c:DT)(a b:DE):DE:=fun ρ=>c ρ>>=fun x=>if x then a ρ else b ρ
def dX(a b:DE):DE:=fun ρ=>a ρ>>=fun x=>zB x>>=fun c=>if c then b ρ else M.ret (.bl false)
def Ew(a:DE):DE:=fun ρ=>a ρ>>=fun x=>zB x>>=fun c=>M.ret (.bl (!c))
section
variable{X:Cx}{Xw:Nat→Hp→Prop}{a b:Expr}{δa δb:DE}{pos:Pos}
theorem ab{i:Nat}{x:Str}(h:PE X (.Name x pos) (oQ i)):PD X Xw (.Name x pos) (dV i):=PE.weak h fun σ H Q ⟨F,ρ,s,w⟩=>by
 unfold dV at w
 split at w
 ·rename_i d e
  obtain⟨v,h1,h2⟩:=s.den i _ e
  exact⟨v,h1,WP.now w s.fh h2⟩
 ·exact w.elim
theorem gc{e:Expr}{d:D}{v:V}(h:PE X e (tC v))(hd:∀F,Den X.K F d v):PD X Xw e (dC d):=PE.weak h fun σ H Q ⟨F,ρ,s,w⟩=>WP.now w s.fh (hd F)
theorem av{i j}:PD X Xw (.Constant (.int i) j pos) (dC (.int i)):=gc Gq fun _=>rfl
theorem fI{i j}:PD X Xw (.Constant (.bool i) j pos) (dC (.bl i)):=gc Jh fun _=>rfl
theorem r6{j}:PD X Xw (.Constant .none j pos) (dC .non):=gc Gr fun _=>rfl
theorem kS{x j}(h:x.length≤lim:=by decide):PD X Xw (.Constant (.str x) j pos) (dC (.str x)):=gc Gv fun _=>⟨rfl,h⟩
def sZ(K:W.Frag)(r:R2)(g:D→D→M D):Prop:=∀(Xw:Nat→Hp→Prop) (F H:Hp) (x y:V) (dx dy:D) (Q:VK),Same F H→Den K F dx x→Den K F dy y→WP K Xw F H (g dx dy) Q→r x y H Q
theorem sR{r:R2}{g:D→D→M D}(hg:sZ X.K r g):∀σ H Q,tD X.K Xw (d2 g δa δb) σ H Q→JG r (tD X.K Xw δa) (tD X.K Xw δb) σ H Q:=fun σ H Q ⟨F,ρ,s,w⟩=>by
 refine⟨F,ρ,s,WP.mono (WP.bind w) fun v H1 ⟨F1,d,e1,q1,w1⟩=>?_⟩
 refine⟨F1,ρ,s.ext e1,WP.mono (WP.bind w1) fun u H2 ⟨F2,d',e2,q2,w2⟩=>?_⟩
 exact hg Xw F2 H2 v u d d' Q e2.fh (Den.mono e2.ff q1) q2 w2
theorem qt{op:Operator}{r:R2}{g:D→D→M D}(ho:OpR X (binaryOp op) r)(hg:sZ X.K r g)(ha:PD X Xw a δa)(hb:PD X Xw b δb):PD X Xw (.BinOp a op b pos) (d2 g δa δb):=
 PE.weak (Jj ho ha hb) (sR hg)
theorem Bc{op:CmpOp}{r:R2}{g:D→D→M D}(ho:OpR X (compareOp op) r)(hg:sZ X.K r g)(ha:PD X Xw a δa)(hb:PD X Xw b δb)(hm:behindInMarks op b=false:=by first | exact AZ _ | rfl):PD X Xw (.Compare a [op] [b] pos) (d2 g δa δb):=
 PE.weak (DL ho ha hb hm) (sR hg)
theorem dP{op:CmpOp}{r:R2}{g:D→D→M D}(ho:OpR X (compareOp op) r)(hg:sZ X.K r g)(ha:PD X Xw a δa)(hb:PD X Xw b δb)(hm:behindInMarks op b=false:=by first | exact AZ _ | rfl):ku X Xw (.Compare a [op] [b] pos) (b9 (d2 g δa δb)):=
 PT.weak (D0 ho ha hb hm) fun σ H Q ⟨F,ρ,s,w⟩=>by
  refine sR hg σ H _ ⟨F,ρ,s,WP.mono (WPB.bind w) fun v H1 ⟨F1,d,e1,q1,w1⟩=>?_⟩
  cases d with
  |bl k=>exact⟨k,q1,w1 _ _ (Ext.refl e1.fh)⟩
  |_=>exact w1.elim
theorem xK{r:R2}{g:D→D→M D}(hr:Hm X r)(hg:sZ X.K r g)(ha:PD X Xw a δa)(hb:PD X Xw b δb)(hs:iI b:=by intro _ _;rfl):PD X Xw (.Subscript a b pos) (d2 g δa δb):=
 PE.weak (Ji hr ha hb hs) (sR hg)
theorem ae:lu X Xw [] aN:=PA.weak rW fun σ H Q ⟨F,ρ,s,w⟩=>w [] H F (Ext.refl s.fh) rfl
theorem aa{es:List Expr}{δs:DA}(ha:PD X Xw a δa)(hr:lu X Xw es δs)(hs:starEach (a::es) X.env=(false,eval a X.env)::starEach es X.env:=by rfl):lu X Xw (a::es) (aC δa δs):=
 PA.weak (rV ha hr hs) fun σ H Q ⟨F,ρ,s,w⟩=>by
  refine⟨F,ρ,s,WP.mono (WPL.bind w) fun v H1 ⟨F1,d,e1,q1,w1⟩=>?_⟩
  refine⟨F1,ρ,s.ext e1,WPL.mono (WPL.bindL w1) fun vs H2 ⟨F2,ds,e2,q2,w2⟩=>?_⟩
  exact w2 _ _ _ (Ext.refl e2.fh) (.cons (Den.mono e2.ff q1) q2)
def dG(ds:List D):M D:=if ds.length≤lim then M.ret (.tup ds) else M.stuck
def fC(ds:List D):M D:=if ds.length≤lim then M.ret (.lst ds) else M.stuck
theorem vW{ds:List D}{f:List D→D}{Q:VK}{F H:Hp}(w:WP X.K Xw F H (if ds.length≤lim then M.ret (f ds) else M.stuck) Q):ds.length≤lim∧WP X.K Xw F H (M.ret (f ds)) Q:=by
 split at w
 ·rename_i h;exact⟨h,w⟩
 ·exact w.elim
theorem iq{x1}{es:List Expr}{δs:DA}(h:lu X Xw es δs):PD X Xw (.Tuple es x1 pos) (dA dG δs):=PE.weak (Gw h) fun σ H Q ⟨F,ρ,s,w⟩=>by
 refine⟨F,ρ,s,WPL.mono (WP.bindL w) fun vs H1 ⟨F1,ds,e1,q1,w1⟩=>?_⟩
 obtain⟨hl,w1⟩:=vW (X:=X) w1
 have hv:=q1.len
 refine⟨by have:=eE;omega,fun p hp=>WP.fin w1 (Ext.lay e1.fh hp) ⟨p,vs,rfl,aD,DenL.mono (Ext.lay e1.fh hp).ff q1,hl⟩⟩
theorem kP{es:List Expr}{δs:DA}(h:lu X Xw es δs):PD X Xw (.List es pos) (dA fC δs):=PE.weak (Bw h) fun σ H Q ⟨F,ρ,s,w⟩=>by
 refine⟨F,ρ,s,WPL.mono (WP.bindL w) fun vs H1 ⟨F1,ds,e1,q1,w1⟩=>?_⟩
 obtain⟨hl,w1⟩:=vW (X:=X) w1
 have hv:=q1.len
 refine⟨by have:=eE;omega,fun p hp=>WP.fin w1 (Ext.lay e1.fh hp) ⟨p,vs,rfl,aD,DenL.mono (Ext.lay e1.fh hp).ff q1,hl⟩⟩
end
def ItD(K:W.Frag)(F:Hp)(J:It)(ds:List D):Prop:=∀(F' H':Hp) (i:Nat),Same F F'→Same F' H'→
 (∀d,ds[i]? =some d→J.go i H'∧∀x H'',J.yld i H' x H''→∃F'',Ext F' H' F'' H''∧Den K F'' d x)∧(ds.length≤i→J.stop i H')
theorem ItD.mono{K:W.Frag}{F F1:Hp}{J:It}{ds:List D}(h:ItD K F J ds)(e:Same F F1):ItD K F1 J ds:=fun F' H' i s1 s2=>h F' H' i (e.trans s1) s2
def WPI(K:W.Frag)(Xw:Nat→Hp→Prop)(F H:Hp)(m:M (List D))(R:It→Hp→Prop):Prop:=
 match m with
 |none=>False
 |some (.ok ds)=>∀J H' F',Ext F H F' H'→ItD K F' J ds→R J H'
 |some (.ex n)=>∀F' H',Ext F H F' H'→Xw n H'
def OQ(K:W.Frag)(Xw:Nat→Hp→Prop)(δ:DA):TI:=fun σ H R=>∃F ρ,StE K F H σ ρ∧WPI K Xw F H (δ ρ) R
def ve(X:Cx)(Xw:Nat→Hp→Prop)(tg iter:Expr)(δ:DA):Prop:=PI X tg iter (OQ X.K Xw δ)
theorem PI.weak{X:Cx}{tg e:Expr}{t t':TI}(h:PI X tg e t)(k:∀σ H Q,t' σ H Q→t σ H Q):PI X tg e t':=fun pins s σ H Q I w=>h pins s σ H Q I (k σ H Q w)
theorem WPI.bind{K:W.Frag}{Xw:Nat→Hp→Prop}{F H:Hp}{m:M D}{k:D→M (List D)}{R:It→Hp→Prop}(h:WPI K Xw F H (m>>=k) R):
 WP K Xw F H m fun v H1=>∃F1 d,Ext F H F1 H1∧Den K F1 d v∧WPI K Xw F1 H1 (k d) R:=by
 match m,h with
 |none,h=>exact h
 |some (.ok d),h=>
  refine fun v H2 F2 e2 q=>⟨F2,d,e2,q,?_⟩
  have h:WPI K Xw F H (k d) R:=h
  show WPI K Xw F2 H2 (k d) R
  match k d,h with
  |none,h=>exact h
  |some (.ok ds),h=>exact fun J H3 F3 e3 q3=>h J H3 F3 (e2.trans e3) q3
  |some (.ex n),h=>exact fun F3 H3 e3=>h F3 H3 (e2.trans e3)
 |some (.ex n),h=>exact h
theorem WPI.bindL{K:W.Frag}{Xw:Nat→Hp→Prop}{F H:Hp}{m:M (List D)}{k:List D→M (List D)}{R:It→Hp→Prop}(h:WPI K Xw F H (m>>=k) R):
 WPL K Xw F H m fun v H1=>∃F1 d,Ext F H F1 H1∧DenL K F1 d v∧WPI K Xw F1 H1 (k d) R:=by
 match m,h with
 |none,h=>exact h
 |some (.ok d),h=>
  refine fun v H2 F2 e2 q=>⟨F2,d,e2,q,?_⟩
  have h:WPI K Xw F H (k d) R:=h
  show WPI K Xw F2 H2 (k d) R
  match k d,h with
  |none,h=>exact h
  |some (.ok ds),h=>exact fun J H3 F3 e3 q3=>h J H3 F3 (e2.trans e3) q3
  |some (.ex n),h=>exact fun F3 H3 e3=>h F3 H3 (e2.trans e3)
 |some (.ex n),h=>exact h
def lstM:D→M (List D)
 | .lst ds=>M.ret ds
 |_=>M.stuck
def L7:D→M (List D)
 | .tup ds=>M.ret ds
 |_=>M.stuck
def d4(a:DE):DA:=fun ρ=>a ρ>>=lstM
def vB(a:DE):DA:=fun ρ=>a ρ>>=L7
theorem AF{K:W.Frag}{F:Hp}{a:Addr}{vs:List V}{ds:List D}(h:SqL K F a vs)(hd:DenL K F ds vs):ItD K F (Ks K a) ds:=fun F' H' i s1 s2=>by
 have hs:=Same.seq s2 (Same.seq s1 h)
 refine⟨fun d e=>?_,fun hl=>⟨vs,hs,by rw[←hd.len];exact hl⟩⟩
 obtain⟨v,e1,q⟩:=hd.get e
 refine⟨⟨vs,v,hs,e1⟩,fun x H'' y=>?_⟩
 obtain⟨e2,y⟩:=y
 subst e2
 have:=y vs hs
 rw[e1] at this
 cases this
 exact⟨F',Ext.refl s2,Den.mono s1 q⟩
theorem C1{K:W.Frag}{F:Hp}{a:Addr}{vs:List V}{ds:List D}(h:SqT K F a vs)(hd:DenL K F ds vs):ItD K F (Kt K a) ds:=fun F' H' i s1 s2=>by
 have hs:=Same.tup s2 (Same.tup s1 h)
 refine⟨fun d e=>?_,fun hl=>⟨vs,hs,by rw[←hd.len];exact hl⟩⟩
 obtain⟨v,e1,q⟩:=hd.get e
 refine⟨⟨vs,v,hs,e1⟩,fun x H'' y=>?_⟩
 obtain⟨e2,y⟩:=y
 subst e2
 have:=y vs hs
 rw[e1] at this
 cases this
 exact⟨F',Ext.refl s2,Den.mono s1 q⟩
def gi(lo:Int)(n:Nat):List D:=(List.range n).map fun(i:Nat)=>D.int (lo+(i:Int))
theorem p4{K:W.Frag}{F:Hp}(lo:Int)(n:Nat):ItD K F (Hl lo n) (gi lo n):=fun F' H' i s1 s2=>by
 refine⟨fun d e=>?_,fun hl=>show n≤i by simpa[gi] using hl⟩
 unfold gi at e
 rw[List.getElem?_map] at e
 have hi:i<n:=by
  by_cases hi:i<n
  ·exact hi
  ·rw[List.getElem?_eq_none (by simpa using hi)] at e;cases e
 rw[List.getElem?_range hi] at e
 cases e
 refine⟨hi,fun x H'' y=>?_⟩
 obtain⟨e2,y⟩:=y
 subst e2 y
 exact⟨F',Ext.refl s2,rfl⟩
section
variable{X:Cx}{Xw:Nat→Hp→Prop}{tg l:Expr}{δ:DE}{pos:Pos}
theorem b7(h:PD X Xw l δ):ve X Xw tg l (d4 δ):=PI.weak (DP h) fun σ H R ⟨F,ρ,s,w⟩=>by
 refine⟨F,ρ,s,WP.mono (WPI.bind w) fun v H1 ⟨F1,d,e1,q1,w1⟩=>?_⟩
 cases d with
 |lst ds=>
  obtain⟨a,vs,h1,h2,h3,h4⟩:=q1
  exact⟨a,h1,⟨vs,Same.seq e1.fh (SqL.of h2)⟩,w1 _ _ _ (Ext.refl e1.fh) (AF (SqL.of h2) h3)⟩
 |_=>exact w1.elim
theorem xN(h:PD X Xw l δ):ve X Xw tg l (vB δ):=PI.weak (GA h) fun σ H R ⟨F,ρ,s,w⟩=>by
 refine⟨F,ρ,s,WP.mono (WPI.bind w) fun v H1 ⟨F1,d,e1,q1,w1⟩=>?_⟩
 cases d with
 |tup ds=>
  obtain⟨a,vs,h1,h2,h3,h4⟩:=q1
  exact⟨a,h1,⟨vs,Same.tup e1.fh (SqT.of h2)⟩,w1 _ _ _ (Ext.refl e1.fh) (C1 (SqT.of h2) h3)⟩
 |_=>exact w1.elim
def jg:List D→M (List D)
 |[.int j]=>if -4096≤j∧j≤4096 then M.ret (gi 0 j.toNat) else M.stuck
 |_=>M.stuck
def oD:List D→M (List D)
 |[.int i, .int j]=>if (-4096≤i∧i≤4096)∧(-4096≤j∧j≤4096) then M.ret (gi i (j - i).toNat) else M.stuck
 |_=>M.stuck
theorem DenL.one{K:W.Frag}{F:Hp}{d:D}{vs:List V}(h:DenL K F [d] vs):∃v,vs=[v]∧Den K F d v:=by
 obtain⟨v,r,h1,h2,h3⟩:=h
 cases (show r=[] from h3)
 exact⟨v,h1,h2⟩
theorem DenL.two{K:W.Frag}{F:Hp}{d d':D}{vs:List V}(h:DenL K F [d,d'] vs):∃v v',vs=[v,v']∧Den K F d v∧Den K F d' v':=by
 obtain⟨v,r,h1,h2,h3⟩:=h
 obtain⟨v',h4,h5⟩:=h3.one
 subst h4
 exact⟨v,v',h1,h2,h5⟩
theorem fc{a:Expr}{δs:DA}{p:Pos}(hg:Gl X "range")(hm:X.mg "range"=none)(ha:lu X Xw [a] δs)(hs:starEach [a] X.env=[(false,eval a X.env)]:=by rfl):ve X Xw tg (.Call (.Name "range" p) [a] [] pos) (fun ρ=>δs ρ>>=jg):=
 PI.weak (ze hg hm ha hs) fun σ H R ⟨F,ρ,s,w⟩=>by
  refine⟨F,ρ,s,WPL.mono (WPI.bindL w) fun vs H1 ⟨F1,ds,e1,q1,w1⟩=>?_⟩
  unfold jg at w1
  split at w1
  ·rename_i j
   obtain⟨v,h1,h2⟩:=q1.one
   cases (show v=_ from h2)
   split at w1
   ·exact⟨j,h1,by omega,by omega,w1 _ _ _ (Ext.refl e1.fh) (p4 0 _)⟩
   ·exact w1.elim
  ·exact w1.elim
theorem jA{a b:Expr}{δs:DA}{p:Pos}(hg:Gl X "range")(hm:X.mg "range"=none)(ha:lu X Xw [a,b] δs)(hs:starEach [a,b] X.env=[(false,eval a X.env),(false,eval b X.env)]:=by rfl)
 (Ka:starEach [b] X.env=[(false,eval b X.env)]:=by rfl):ve X Xw tg (.Call (.Name "range" p) [a,b] [] pos) (fun ρ=>δs ρ>>=oD):=
 PI.weak (zf hg hm ha hs Ka) fun σ H R ⟨F,ρ,s,w⟩=>by
  refine⟨F,ρ,s,WPL.mono (WPI.bindL w) fun vs H1 ⟨F1,ds,e1,q1,w1⟩=>?_⟩
  unfold oD at w1
  split at w1
  ·rename_i i j
   obtain⟨v,v',h1,h2,h3⟩:=q1.two
   cases (show v=_ from h2)
   cases (show v'=_ from h3)
   split at w1
   ·exact⟨i,j,h1,⟨by omega,by omega,by omega,by omega⟩,w1 _ _ _ (Ext.refl e1.fh) (p4 i _)⟩
   ·exact w1.elim
  ·exact w1.elim
end
def dm(tg N:List Str):List Str:=N.map fun y=>if tg.contains y then y++(" ":Str) else y
def jb(X:Cx)(scope:Scope)(tn:List Str)(pins:List (Addr×Obj))(cl:List (Str×Addr))(C:Addr)(fp:List Addr)(s₂:Shared)(H:Hp):Cx:=
 {X with N:=tn++dm tn X.N,s₀:=s₂,H₀:=H,env:=compEnvC scope cl C X.env,outer:=X.stack,ex:=fp,fn:=fun _=>false,pn:=X.pn++pins,xe:=fun _ _=>False}
structure CompSc (X:Cx) (scope:Scope) (tn:List Str):Prop where
 kind:scope.kind= .function
 nocell:∀y∈scope.names,y.2≠ .cell
 names:∀y∈scope.names,y.2= .local→scope.names.lookup y.1=some .local
 frees:∀y∈scope.names,y.2= .free→X.env.kindOf y.1=some .cell∨X.env.kindOf y.1=some .free
 vis:∀p∈(dm tn X.N).zip X.N,scope.names.lookup p.1=none∨(p.1=p.2∧scope.names.lookup p.1=some .free)
theorem jm{env:Env}:∀(names:List (Str×NameKind)) (acc:List (Str×Addr)),(∀y∈names,y.2= .free→∃c,env.cells.lookup y.1=some c)→
 (∀x c,acc.lookup x=some c→env.cells.lookup x=some c)→
 ∃cl,(forIn names acc (fun (x:Str×NameKind) (r:List (Str×Addr))=>do
   let __x:=x
   if (__x.2==NameKind.free)=true then do let c←cellOf env __x.1;pure (ForInStep.yield ((__x.1,c)::r)) else pure (ForInStep.yield r)):Sem (List (Str×Addr)))=pure cl∧
  (∀x c,cl.lookup x=some c→env.cells.lookup x=some c)∧(∀x c,acc.lookup x=some c→∃c',cl.lookup x=some c')∧(∀x,names.lookup x=some .free→∃c,cl.lookup x=some c)
 |[],acc,_,h2=>⟨acc,rfl,h2,fun x c e=>⟨c,e⟩,fun x e=>by simp at e⟩
 |(n,k)::r,acc,h1,h2=>by
  by_cases hk:k= .free
  ·subst hk
   obtain⟨c,hc⟩:=h1 (n, .free) List.mem_cons_self rfl
   obtain⟨cl,e,a1,a2,a3⟩:=jm r ((n,c)::acc) (fun y hy=>h1 y (List.mem_cons_of_mem _ hy)) (fun x c' q=>by
    rw[List.lookup_cons] at q
    split at q
    ·rename_i hx
     cases q
     rw[show x=n from by simpa using hx];exact hc
    ·exact h2 x c' q)
   refine⟨cl,?_,a1,fun x c' q=>?_,fun x q=>?_⟩
   ·rw[List.forIn_cons]
    have:cellOf env n=pure c:=by unfold cellOf;rw[hc]
    simp only[beq_self_eq_true,if_true,this,pure_bind]
    exact e
   ·by_cases hx:x=n
    ·subst hx
     exact a2 x c (by simp[List.lookup_cons])
    ·exact a2 x c' (by rw[List.lookup_cons,show (x==n)=false from by simpa using hx];exact q)
   ·rw[List.lookup_cons] at q
    split at q
    ·rename_i hx
     exact a2 x c (by rw[List.lookup_cons,hx])
    ·exact a3 x q
  ·obtain⟨cl,e,a1,a2,a3⟩:=jm r acc (fun y hy=>h1 y (List.mem_cons_of_mem _ hy)) h2
   refine⟨cl,?_,a1,a2,fun x q=>?_⟩
   ·rw[List.forIn_cons]
    have:((k==NameKind.free)=true)=False:=by simpa using hk
    simp only[this,if_false,pure_bind]
    exact e
   ·rw[List.lookup_cons] at q
    split at q
    ·cases q;exact absurd rfl hk
    ·exact a3 x q
theorem m9{scope:Scope}{env:Env}(h:∀y∈scope.names,y.2= .free→∃c,env.cells.lookup y.1=some c):
 ∃cl,closureFor scope env=pure cl∧(∀x c,cl.lookup x=some c→env.cells.lookup x=some c)∧(∀x,scope.names.lookup x=some .free→∃c,cl.lookup x=some c):=by
 obtain⟨cl,e,a1,_,a3⟩:=jm (env:=env) scope.names [] h (fun x c q=>by simp at q)
 refine⟨cl,?_,a1,a3⟩
 unfold closureFor
 show (forIn scope.names [] _>>=fun r=>pure r)=_
 rw[bind_pure]
 exact e
def noex{α:Type}:M α→M α
 |some (.ok a)=>some (.ok a)
 |_=>none
def dj(f:D→M (Option D)):List D→M (List D)
 |[]=>M.ret []
 |d::ds=>f d>>=fun o=>dj f ds>>=fun r=>M.ret (match o with | some y=>y::r | none=>r)
def Na(n:Nat):D→M (List D):=fun d=>match n,d with
 |0,d=>M.ret [d]
 |n, .tup ds=>if ds.length=n then M.ret ds else M.stuck
 |_,_=>M.stuck
def gM(n:Nat)(δt:DT)(δe:DE)(ρ:aX):D→M (Option D):=fun d=>
 Na n d>>=fun ts=>δt (ts.map (fun t=>some (Sl.fz t))++ρ)>>=fun b=>if b then δe (ts.map (fun t=>some (Sl.fz t))++ρ)>>=fun y=>M.ret (some y) else M.ret none
def bE(n:Nat)(δi:DA)(δt:DT)(δe:DE):DE:=fun ρ=>δi ρ>>=fun ds=>noex (dj (gM n δt δe ρ) ds)>>=fC
def cM:DT:=fun _=>M.ret true
theorem eW(f:D→M (Option D))(d:D)(ds:List D):dj f (d::ds)=(f d>>=fun o=>dj f ds>>=fun r=>M.ret (match o with | some y=>y::r | none=>r)):=rfl
theorem vA{f:D→M (Option D)}{ds:List D}{i:Nat}{d:D}{ys R:List D}(hd:ds[i]? =some d)
 (h:dj f ds=(dj f (ds.drop i)>>=fun r=>M.ret (ys++r)))(hR:dj f ds=M.ret R):
 ∃o,f d=M.ret o∧dj f ds=(dj f (ds.drop (i+1))>>=fun r=>M.ret ((match o with | some y=>ys++[y] | none=>ys)++r)):=by
 have e:ds.drop i=d::ds.drop (i+1):=by
  obtain⟨hi,e⟩:=List.getElem?_eq_some_iff.mp hd
  rw[List.drop_eq_getElem_cons hi,e]
 rw[e,eW] at h
 have h':=h.symm.trans hR
 obtain⟨r,h1,h2⟩:=gk h'
 obtain⟨o,h3,h4⟩:=gk h1
 refine⟨o,h3,?_⟩
 obtain⟨r',h5,h6⟩:=gk h4
 rw[h5,hR]
 rw[←h2,←fJ h6]
 show M.ret _=M.ret _
 cases o with
 |none=>rfl
 |some y=>simp
theorem ym{prog:Program}{w:World}{A:Around}{R:Result→Shared→Prop}{s:Shared}{elt target iter:Expr}{ifs:List Expr}{scope:Scope}{pos:Pos}{it acc:Value}{env:Env}(I:Nat→Shared→Prop)
 (turn:∀n s,I n s→wpAny (model prog w) A (pyNext it) (fun r s₁=>match r with
  |none=>R (.ok .next) s₁
  |some v=>wpAny (model prog w) A (letOwnedTupleGo target it v) (fun _ M9=>wpAny (model prog w) A (assign target env v) (fun _ s₂=>
    wpAny (model prog w) A (forIn ifs true fun c r=>if r=true then do let ok←isTrue c env (eval c env);pure (ForInStep.yield ok) else pure (ForInStep.yield r)) (fun ok s₃=>
     if ok=true then wpAny (model prog w) A (eval elt env) (fun x s₄=>
      wpAny (model prog w) A (call (.builtin "list.append") [acc,x]) (fun _ s₅=>∃m,m<n∧I m s₅) (notedBy (model prog w) A env fun e s'=>R (.error e) s') s₄) (notedBy (model prog w) A env fun e s'=>R (.error e) s') s₃
     else∃m,m<n∧I m s₃) (notedBy (model prog w) A env fun e s'=>R (.error e) s') s₂) (notedBy (model prog w) A env fun e s'=>R (.error e) s') M9) (notedBy (model prog w) A env fun e s'=>R (.error e) s') s₁) (notedBy (model prog w) A env fun e s'=>R (.error e) s') s)
 (n:Nat) (h:I n s):
 codeAny (model prog w) A (.compLoop (.ListComp elt [⟨target,iter,ifs,0⟩] scope pos) 0 it acc env) R s:=by
 refine codeAny_loop rfl I (fun n s hI=>?_) n h
 show wpAny _ A ((compTurn (.ListComp elt [⟨target,iter,ifs,0⟩] scope pos) 0 it acc env).onRaise (fun x=>do noteFrame x env;theTreesLotGoes x)) _ _ s
 refine wpAny_noted ?_
 rw[compTurn_list]
 refine wpAny_bind (wpAny_standAt (wpAny_bind (wpAny_mono (turn n s hI) (fun r s₁ h₁=>?_) fun _ _ h'=>h')))
 cases r with
 |none=>exact wpAny_pure h₁
 |some v=>
  refine wpAny_bind (wpAny_mono h₁ (fun _ M9 h₁=>?_) fun _ _ h'=>h')
  refine wpAny_bind (wpAny_mono h₁ (fun _ s₂ h₂=>wpAny_bind (wpAny_mono h₂ (fun ok s₃ h₃=>?_) fun _ _ h'=>h')) fun _ _ h'=>h')
  cases ok with
  |false=>exact wpAny_pure ⟨rfl,h₃⟩
  |true=>
   exact wpAny_bind (wpAny_bind (wpAny_mono h₃ (fun x s₄ h₄=>wpAny_bind (wpAny_mono h₄ (fun _ s₅ h₅=>wpAny_pure (wpAny_pure ⟨rfl,h₅⟩)) fun _ _ h'=>h')) fun _ _ h'=>h'))
def zF(X:Cx)(tg:Expr)(n:Nat)(σ:St):Prop:=∀(pins:List (Addr×Obj)) (s:Shared) (σ':St) (F H:Hp) (d:D) (ts:List D) (v:V) (u:Value),Inv X pins σ' H s→Same F H→σ'.drop (max n 1)=σ→RelV v u→Den X.K F d v→Na n d=M.ret ts→
 wpAny (model X.prog X.w) X.A (assign tg X.env u) (fun _ s'=>∃vs,Inv X pins (vs.map some++σ) H s'∧DenL X.K F ts vs) X.xe s
def kx(X:Cx)(ifs:List Expr)(δt:DT):Prop:=∀(pins:List (Addr×Obj)) (s:Shared) (σ:St) (H:Hp) (Q:Bool→Hp→Prop),Inv X pins σ H s→LW X.K (fun _ _=>False) δt σ H Q→
 wpAny (model X.prog X.w) X.A (forIn ifs true fun c r=>if r=true then do let ok←isTrue c X.env (eval c X.env);pure (ForInStep.yield ok) else pure (ForInStep.yield r)) (TP X pins σ Q) X.xe s
theorem eA{X:Cx}:kx X [] cM:=fun pins s σ H Q I ⟨F,ρ,S,w⟩=>wpAny_tests_nil ⟨H,I,w H F (Ext.refl S.fh)⟩
theorem oT{X:Cx}{c:Expr}{δ:DT}(h:ku X (fun _ _=>False) c δ):kx X [c] δ:=fun pins s σ H Q I w=>wpAny_tests_one (h pins s σ H Q I w)
theorem StE.cons{K:W.Frag}{F H:Hp}{σ:St}{ρ:aX}{ts:List D}{vs:List V}(s:StE K F H σ ρ)(h:DenL K F ts vs):StE K F H (vs.map some++σ) (ts.map (fun t=>some (Sl.fz t))++ρ):=by
 refine⟨s.fh,fun i sl e=>?_⟩
 have hl:=h.len
 by_cases hi:i<ts.length
 ·rw[List.getElem?_append_left (by simpa using hi),List.getElem?_map] at e
  cases q:ts[i]? with
  |none=>rw[q] at e;cases e
  |some t=>
   rw[q] at e
   cases e
   obtain⟨v,e1,e2⟩:=h.get q
   exact⟨v,by rw[List.getElem?_append_left (by simp;omega),List.getElem?_map,e1];rfl,e2⟩
 ·rw[List.getElem?_append_right (by simpa using hi)] at e
  obtain⟨v,e1,e2⟩:=s.den _ _ e
  refine⟨v,?_,e2⟩
  rw[List.getElem?_append_right (by simp;omega)]
  simpa[hl] using e1
theorem WPB.take{Xw:Nat→Hp→Prop}{F H:Hp}{b:Bool}:WPB Xw F H (M.ret b) fun b' H'=>b'=b∧∃F',Ext F H F' H':=fun H' F' e=>⟨rfl,F',e⟩
theorem WP.take{K:W.Frag}{Xw:Nat→Hp→Prop}{F H:Hp}{d:D}:WP K Xw F H (M.ret d) fun v H'=>∃F',Ext F H F' H'∧Den K F' d v:=fun v H' F' e q=>⟨F',e,q⟩
def kX(env:Env)(p:Str×NameKind):Str×NameKind:=if (p.2== .free&&env.scope.kind== .function&&env.kindOf p.1==some .cell) then(p.1, .cell) else(p.1,p.2)
theorem fS(scope:Scope)(env:Env):(relabel scope env).names=scope.names.map (kX env):=rfl
theorem BL(env:Env)(p:Str×NameKind):(kX env p).1=p.1:=by unfold kX;split<;>rfl
theorem gq(env:Env)(x:Str):∀ns:List (Str×NameKind),(ns.map (kX env)).lookup x=(ns.lookup x).map fun k=>(kX env (x,k)).2
 |[]=>rfl
 |(m,k)::r=>by
  rw[List.map_cons,List.lookup_cons,List.lookup_cons]
  have e:kX env (m,k)=(m,(kX env (m,k)).2):=Prod.ext (BL env (m,k)) rfl
  rw[e]
  dsimp only
  by_cases hx:(x==m)=true
  ·have hm:x=m:=by simpa using hx
   subst hm
   rw[hx]
   rfl
  ·have hx:(x==m)=false:=by simpa using hx
   rw[hx]
   exact gq env x r
theorem sk{scope:Scope}{env:Env}{x:Str}(h:scope.names.lookup x=none):(relabel scope env).names.lookup x=none:=by
 rw[fS,gq,h];rfl
theorem sj{scope:Scope}{env:Env}{x:Str}(hc:∀y∈scope.names,y.2≠ .cell)(h:(relabel scope env).names.lookup x=some .cell∨(relabel scope env).names.lookup x=some .free):scope.names.lookup x=some .free:=by
 rw[fS,gq] at h
 cases q:scope.names.lookup x with
 |none=>rw[q] at h;rcases h with h | h<;>cases h
 |some k=>
  rw[q] at h
  have hk:k≠ .cell:=hc _ (PySem.mem_of_lookup q)
  have h:(kX env (x,k)).2= .cell∨(kX env (x,k)).2= .free:=by simpa using h
  by_cases hf:k= .free
  ·rw[hf]
  ·have:(kX env (x,k)).2=k:=by
    unfold kX
    rw[if_neg]
    simp[hf]
   rw[this] at h
   rcases h with h | h
   ·exact absurd h hk
   ·exact absurd h hf
theorem kY{scope:Scope}{env:Env}{x:Str}(h:scope.names.lookup x=some .free):¬(relabel scope env).names.lookup x=some .local:=by
 rw[fS,gq,h]
 intro z
 have z:(kX env (x, .free)).2= .local:=by simpa using z
 unfold kX at z
 split at z<;>cases z
structure BlockEnd (X:Cx) (pins:List (Addr×Obj)) (C:Addr) (H':Hp) (s1:Shared):Prop where
 ns:∃m,s1.heap.Ns C m
 free:H' C=none
 nl:C≠X.env.locals
 nw:X.s₀.heap.objs.size≤C
 nc:∀x c,X.env.cells.lookup x=some c→c≠C
 np:∀p∈X.pn++pins,p.1≠C
theorem tq{X:Cx}{Xw:Nat→Hp→Prop}{elt iter tg:Expr}{ifs:List Expr}{scope:Scope}{pos:Pos}{tn:List Str}{n:Nat}{δi:DA}{δt:DT}{δe:DE}{cl:List (Str×Addr)}{pins:List (Addr×Obj)}{s:Shared}{σ:St}{H F:Hp}{ρ:aX}{Q:VK}{RR:Value→Addr→Result→Shared→Prop}
 (sc:CompSc X scope tn)(hn:tn.length=max n 1)(hc:X.calm=true)(hi:ve X Xw tg iter δi)
 (hg:∀pins cl C fp s₂ H σ,zF (jb X scope tn pins cl C fp s₂ H) tg n σ)
 (ht:∀pins cl C fp s₂ H,kx (jb X scope tn pins cl C fp s₂ H) ifs δt)
 (he:∀pins cl C fp s₂ H,PD (jb X scope tn pins cl C fp s₂ H) (fun _ _=>False) elt δe)
 (I:Inv X pins σ H s)(S:StE X.K F H σ ρ)(w:WP X.K Xw F H (bE n δi δt δe ρ) Q)
 (zR:∀x c,cl.lookup x=some c→X.env.cells.lookup x=some c)(G_:∀x,scope.names.lookup x=some .free→∃c,cl.lookup x=some c)
 (NB:∀(s1:Shared) (C D:Addr) (H':Hp),Inv X pins σ H' s1→Q (.ref D) H'→BlockEnd X pins C H' s1→RR (.ref D) C (.ok .next) s1):
 wpAny (model X.prog X.w) X.A (eval iter X.env) (fun x s₁=>wpAny (model X.prog X.w) X.A (pyIter x) (fun it s₂=>wpAny (model X.prog X.w) X.A (newList []) (fun acc s₃=>
  wpAny (model X.prog X.w) X.A (newFunctionEnv scope X.env.globals cl [] X.env.qual none .none (some X.env)) (fun Ht s₄=>
   codeAny (model X.prog X.w) X.A (.compStart (.ListComp elt [⟨tg,iter,ifs,0⟩] scope pos) 0 it acc {Ht with scope:=relabel scope X.env}) (RR acc Ht.locals) s₄) X.xe s₃) X.xe s₂) X.xe s₁) X.xe s:=by
 refine bK (hi pins s σ H (fun J H2=>∃F2 ds,Ext F H F2 H2∧ItD X.K F2 J ds∧WP X.K Xw F2 H2 (noex (dj (gM n δt δe ρ) ds)>>=fC) Q) I ⟨F,ρ,S,?_⟩) fun xv s₁ h₁=>bK h₁ fun it s₂ h₂=>?_
 ·unfold bE at w
  rcases(δi ρ).cs with hq | ⟨m,hq⟩ | ⟨ds,hq⟩
  ·rw[hq] at w;exact w.elim
  ·rw[hq] at w⊢;exact w
  ·rw[hq] at w⊢;exact fun J H' F' e q=>⟨F',ds,e,q,WP.ext e w⟩
 obtain⟨ia,fp,Nb,J,H2,rfl,I2,T,wG,f2,F2,ds,e2,MW,w2⟩:=h₂
 obtain⟨R,hR,My,w2⟩:∃R,dj (gM n δt δe ρ) ds=M.ret R∧R.length≤lim∧WP X.K Xw F2 H2 (M.ret (.lst R)) Q:=by
  rcases(dj (gM n δt δe ρ) ds).cs with hq | ⟨m,hq⟩ | ⟨R,hq⟩
  ·rw[hq] at w2;exact w2.elim
  ·rw[hq] at w2;exact w2.elim
  ·rw[hq] at w2
   obtain⟨h1,h2⟩:=vW (X:=X) (f:=D.lst) (show WP X.K Xw F2 H2 (fC R) Q from w2)
   exact⟨R,hq,h1,h2⟩
 refine wpAny_newObj_type (wpAny_newFunctionEnv sc.nocell (by intro y hy;simp at hy) (fun h₁ FH CU=>?_) sc.kind)
 dsimp only at FH CU⊢
 generalize KJ:s₂.heap.push {cls:= .type "list",dict:=none,data:= .seq ([]:List Value).toArray}=HL at FH CU⊢
 have hC:HL.objs.size=s₂.heap.objs.size+1:=by rw[←KJ,Heap.size_push]
 have yz:s₂.heap.objs.size<HL.objs.size:=by rw[hC];exact Nat.lt_succ_self _
 have old:∀b o,s₂.heap.get? b=some o→h₁.get? b=some o:=fun b o e=>CU.extBut b o (Nat.ne_of_lt (Nat.lt_trans (Heap.lt_size e) yz)) (Heap.get?_push_of_some _ (KJ▸Heap.get?_push_of_some _ e))
 have Al:h₁.get? s₂.heap.objs.size=some {cls:= .type "list",data:= .seq ([]:List Value).toArray}:=CU.extBut _ _ (Nat.ne_of_lt yz) (Heap.get?_push_of_some _ (KJ▸Heap.get?_push_size _ rfl))
 have nD:H2 s₂.heap.objs.size=none:=I2.hok.fresh (Nat.le_refl _)
 have nC:H2 HL.objs.size=none:=I2.hok.fresh (Nat.le_of_lt yz)
 have gC:s₂.heap.get? HL.objs.size=none:=Heap.get?_none_of_le (Nat.le_of_lt yz)
 have fl:∀b∈fp,b<s₂.heap.objs.size:=fun b hb=>by
  obtain⟨o,e,_⟩:=T.obj 0 _ wG b hb
  exact Heap.lt_size e
 generalize tT:jb X scope tn pins cl HL.objs.size fp s₂ H2=X'
 have M6:X'.Ok:=by
  subst tT
  refine⟨I2.ok.mod,sc.kind,I2.ok.glob,I2.ok.blt,Nat.le_of_lt yz,fun x y c h1 h2=>I2.ok.inj x y c (zR _ _ h1) (zR _ _ h2),fun x hx=>?_,fun _ _ h=>(by cases h),I2.ok.hd,I2.ok.frames, .inl rfl,
   fun b hb=>⟨Nat.ne_of_lt (Nat.lt_trans (fl b hb) yz),fun x c h=>(f2 b hb).2.2.2.2.1 x c (zR _ _ h)⟩,I2.bs,Nat.le_trans I2.ok.bsz I2.sz,fun b o e hb=>?_,fun b hb z=>?_,I2.stack,I2.stkFree⟩
  ·have hx:(relabel scope X.env).names.lookup x=some .cell∨(relabel scope X.env).names.lookup x=some .free:=hx
   exact G_ x (sj sc.nocell hx)
  ·rcases(f2 b hb).2.2.2.1 with z | z
   ·exact I2.ok.noex b o e z
   ·exact absurd (Nat.lt_of_lt_of_le (Heap.lt_size (I2.ok.bs b o e).1) z) (Nat.lt_irrefl _)
  ·rcases List.mem_cons.mp (I2.stkSub b z) with q | q
   ·exact(f2 b hb).2.1 q
   ·exact(f2 b hb).2.2.1 q
 have LC:∀b o,H2 b=some o→b≠s₂.heap.objs.size:=fun b o e=>a7 e nD
 have Fu:∀{H':Hp},(∀b∈fp,H' b=none)→∀b∈fp,o8 X' [] H' b:=fun N9 b hb=>by
  subst tT
  refine⟨N9 b hb,Nat.ne_of_lt (Nat.lt_trans (fl b hb) yz),fun z=>M6.exfs b hb z, .inl hb,fun x c h=>(f2 b hb).2.2.2.2.1 x c (zR _ _ h),fun p hp=>?_⟩
  rw[List.append_nil] at hp
  exact(f2 b hb).2.2.2.2.2 p hp
 have I0:Inv X' [] (List.replicate (max n 1) none++σ) (upd H2 s₂.heap.objs.size (.lst [])) {s₂ with heap:=h₁,toks:=s₂.toks+([]:List (Str×Value)).length}:=by
  subst tT
  have Lf:HOk X.prog X.w (upd H2 s₂.heap.objs.size (.lst [])) h₁:=I2.hok.laid old (Nat.le_refl _) ⟨Nat.zero_le _,[],_, .nil,Al⟩
  refine⟨M6,rfl,I2.bare,Un.laid old (Nat.le_refl _) nD,⟨_,FH,fun i x v h1 h2 h3=>?_⟩,fun x c h=>?_,?_,fun x c h=>?_,fun p hp=>?_,Lf,?_⟩
  ·by_cases hi:i<max n 1
   ·rw[List.getElem?_append_left (by simpa using hi),List.getElem?_replicate,if_pos hi] at h2
    cases h2
   ·have K4:tn.length≤i:=by omega
    have h1:(tn++dm tn X.N)[i]? =some x:=h1
    rw[List.getElem?_append_right K4] at h1
    rw[List.getElem?_append_right (by simpa using hi),List.length_replicate,←hn] at h2
    have hN:∃y,X.N[i - tn.length]? =some y∧(x,y)∈(dm tn X.N).zip X.N:=by
     have eZ:=(List.getElem?_eq_some_iff.mp h1).1
     have CP:i - tn.length<X.N.length:=by simpa[dm] using eZ
     refine⟨X.N[i - tn.length],List.getElem?_eq_getElem CP,?_⟩
     refine List.mem_iff_getElem?.mpr ⟨i - tn.length,?_⟩
     rw[List.getElem?_zip_eq_some]
     exact⟨h1,List.getElem?_eq_getElem CP⟩
    obtain⟨y,hy,hm⟩:=hN
    have hV:(relabel scope X.env).names.lookup x=some .local∨(relabel scope X.env).names.lookup x=some .cell∨(relabel scope X.env).names.lookup x=some .free:=h3
    rcases sc.vis _ hm with vJ | ⟨Cq,EH⟩
    ·have vJ:scope.names.lookup x=none:=vJ
     have:(relabel scope X.env).names.lookup x=none:=sk vJ
     rw[this] at hV
     rcases hV with z | z | z<;>cases z
    ·have Cq:x=y:=Cq
     subst Cq
     have EH:scope.names.lookup x=some .free:=EH
     have hk:=sc.frees (x, .free) (PySem.mem_of_lookup EH) rfl
     obtain⟨m,Ik,FD⟩:=I2.loc
     obtain⟨u,ru,lk⟩:=FD _ x v hy h2 (by rcases hk with z | z;exact .inr (.inl z);exact .inr (.inr z))
     refine⟨u,ru, .inr ⟨?_,?_⟩⟩
     ·rcases hV with z | z | z
      ·exact absurd z (kY EH)
      ·exact .inl z
      ·exact .inr z
     ·rcases lk with⟨z,_⟩ | ⟨_,c,NG,Cj⟩
      ·rcases hk with q | q
       ·rw[show X.env.kindOf x=some .local from z] at q;cases q
       ·rw[show X.env.kindOf x=some .local from z] at q;cases q
      ·obtain⟨c',ED⟩:=G_ x EH
       have:=zR _ _ ED
       rw[NG] at this
       cases this
       obtain⟨o,ho,hd⟩:=Cj
       exact⟨c,ED,o,old _ _ ho,hd⟩
  ·obtain⟨v,o,ho,hd⟩:=I2.cell x c (zR _ _ h)
   exact⟨v,o,old _ _ ho,hd⟩
  ·show upd H2 s₂.heap.objs.size (.lst []) HL.objs.size=none
   rw[ax (Nat.ne_of_gt yz)]
   exact nC
  ·have MB:=zR _ _ h
   obtain⟨v,q⟩:=I2.cell x c MB
   rw[ax (Nat.ne_of_lt q.lt)]
   exact I2.freeC x c MB
  ·rw[List.append_nil] at hp
   obtain⟨e,nn,ne,nf,d⟩:=I2.pin p hp
   have eZ:=Heap.lt_size e
   refine⟨old _ _ e,by rw[ax (Nat.ne_of_lt eZ)];exact nn,Nat.ne_of_lt (Nat.lt_trans eZ yz),fun z=>?_,d⟩
   rcases List.mem_cons.mp (I2.stkSub p.1 z) with q | q
   ·exact ne q
   ·exact nf q
  ·show (List.replicate (max n 1) none++σ).length=(tn++dm tn X.N).length
   rw[List.length_append,List.length_append,List.length_replicate,hn,show (dm tn X.N).length=X.N.length from by simp[dm],I2.len]
 have loop:∀s₃:Shared,s₃={s₂ with heap:=h₁,toks:=s₂.toks+([]:List (Str×Value)).length}→
  codeAny (model X.prog X.w) X.A (.compLoop (.ListComp elt [⟨tg,iter,ifs,0⟩] scope pos) 0 (.ref ia) (.ref s₂.heap.objs.size) (compEnvC scope cl HL.objs.size X.env))
   (RR (.ref s₂.heap.objs.size) HL.objs.size) s₃:=by
  intro s₃ FK
  have z5:X'.env=compEnvC scope cl HL.objs.size X.env:=by subst tT;rfl
  have hA:X'.A=X.A:=by subst tT;rfl
  have hP:X'.prog=X.prog:=by subst tT;rfl
  have hw:X'.w=X.w:=by subst tT;rfl
  have hK:X'.K=X.K:=by subst tT;rfl
  have Ow:X'.xe=fun _ _=>False:=by subst tT;rfl
  have EE:X'.calm=true:=by subst tT;exact hc
  have NN:X'.fs=mQ X.stack:=by subst tT;rfl
  have hex:X'.ex=fp:=by subst tT;rfl
  have Nx:X'.H₀=H2:=by subst tT;rfl
  have MN:X'.s₀=s₂:=by subst tT;rfl
  have pass:∀{α:Type}{t:Sem α}{P:α→Shared→Prop}{E':Value→Shared→Prop}{s:Shared},wpAny (model X'.prog X'.w) X'.A t P X'.xe s→wpAny (model X.prog X.w) X.A t P E' s:=fun {α t P E' s} h=>by
   rw[hP,hw,hA,Ow] at h
   exact wpAny_mono h (fun _ _ q=>q) fun _ _ q=>q.elim
  refine ym (fun m s'=>∃(i:Nat) (F' H':Hp) (vs:List V) (ys:List D) (σt:St),m=ds.length - i∧i≤ds.length∧σt.length=max n 1∧Inv X' [] (σt++σ) H' s'∧Nb i s'.heap∧(∀b∈fp,H' b=none)∧Ext F2 H2 F' H'∧
   H' s₂.heap.objs.size=some (.lst vs)∧F' s₂.heap.objs.size=none∧DenL X.K F' ys vs∧dj (gM n δt δe ρ) ds=(dj (gM n δt δe ρ) (ds.drop i)>>=fun r=>M.ret (ys++r))) ?_ ds.length ?_
  ·rintro m s' ⟨i,F',H',vs,ys,σt,rfl,K5,OC,I',oM,Mo,vF,hD,fD,Ke,heq⟩
   by_cases eZ:i<ds.length
   ·
    obtain⟨d,hd⟩:∃d,ds[i]? =some d:=⟨_,List.getElem?_eq_getElem eZ⟩
    obtain⟨K3,FL⟩:=(MW F' H' i vF.ff vF.fh).1 d hd
    obtain⟨o,ho,H0⟩:=vA hd heq hR
    have Lr:ys.length≤lim:=by
     rw[heq] at hR
     obtain⟨r,_,hr⟩:=gk hR
     rw[←fJ hr,List.length_append] at My
     omega
    obtain⟨ts,Oj,ho⟩:=gk ho
    refine pass ?_
    rw[hP,hw]
    refine bK (T.item X' hP hw hK EE i [] s' (σt++σ) H' X'.xe I' (Fu Mo) oM K3) ?_
    rintro r s1 ⟨u,rfl,h1⟩
    refine pass ?_
    rw[hP,hw]
    refine bK h1 ?_
    rintro _ s2 ⟨x,H3,I3,rx,y3,Hg,JW⟩
    obtain⟨F3,Ci,q3⟩:=FL x H3 y3
    have Ms:H3 s₂.heap.objs.size=some (.lst vs):=Ci.hh _ _ hD
    have Nq:F3 s₂.heap.objs.size=none:=by rw[Ci.old hD (fun _ z=>nomatch z)];exact fD
    have I3':=I3.pinned (Fu JW) (T.obj _ _ Hg)
    have xu:∀{σ7:St}{H7:Hp}{s7:Shared},Inv X' ([]++ot fp s2.heap) σ7 H7 s7→Nb (i+1) s7.heap∧∀b∈fp,H7 b=none:=fun {σ7 H7 s7} I7=>
     ⟨T.keep _ _ _ Hg fun b hb o e=>(I7.pin (b,o) (List.mem_append_right _ (List.mem_append_right _ (gu hb e)))).1,fun b hb=>by
      obtain⟨o,e,_⟩:=T.obj _ _ Hg b hb
      exact(I7.pin (b,o) (List.mem_append_right _ (List.mem_append_right _ (gu hb e)))).2.1⟩
    have NO:zF X' tg n σ:=by subst tT;exact hg _ _ _ _ _ _ _
    have Oh:kx X' ifs δt:=by subst tT;exact ht _ _ _ _ _ _
    have NK:PD X' (fun _ _=>False) elt δe:=by subst tT;exact he _ _ _ _ _ _
    refine pass ?_
    rw[←z5]
    refine bK (NO _ s2 (σt++σ) F3 H3 d ts x u I3' Ci.fh (by rw[←OC];simp) rx (by rw[hK];exact q3) Oj) ?_
    rintro _ s4 ⟨vt,I4,dt⟩
    rw[hK] at dt
    have S4:StE X.K F3 H3 (vt.map some++σ) (ts.map (fun t=>some (Sl.fz t))++ρ):=StE.cons ((S.ext e2).ext (vF.trans Ci)) dt
    obtain⟨b,hb,ho⟩:=gk ho
    refine pass ?_
    try rw[←z5]
    refine bK (Oh _ s4 _ H3 (fun b' H5=>b'=b∧∃F5,Ext F3 H3 F5 H5) I4 ⟨F3,_,by rw[hK];exact S4,by rw[hb];exact WPB.take⟩) ?_
    rintro b' s5 ⟨H5,I5,rfl,F5,Fs⟩
    have KI:H5 s₂.heap.objs.size=some (.lst vs):=Fs.hh _ _ Ms
    have Ml:F5 s₂.heap.objs.size=none:=by rw[Fs.old Ms (fun _ z=>nomatch z)];exact Nq
    cases b' with
    |false=>
     rw[if_neg Bool.false_ne_true] at ho⊢
     obtain rfl:=fJ ho
     refine⟨ds.length - (i+1),by omega,i+1,F5,H5,vs,ys,vt.map some,rfl,eZ,?_,I5.unpinned,(xu I5).1,(xu I5).2,vF.trans (Ci.trans Fs),KI,Ml,DenL.mono (Ci.trans Fs).ff Ke,H0⟩
     have h1:=I5.len
     have h2:=I3.len
     rw[List.length_append] at h1 h2
     omega
    |true=>
     rw[if_pos rfl] at ho⊢
     obtain⟨yv,hy,ho⟩:=gk ho
     obtain rfl:=fJ ho
     refine pass ?_
     try rw[←z5]
     refine bK (NK _ s5 _ H5 (fun v H6=>∃F6,Ext F5 H5 F6 H6∧Den X.K F6 yv v) I5 ⟨F5,_,by rw[hK];exact S4.ext Fs,by rw[hy,hK];exact WP.take⟩) ?_
     rintro xv s6 ⟨v,H6,I6,rv,F6,JV,qv⟩
     have Nw:H6 s₂.heap.objs.size=some (.lst vs):=JV.hh _ _ KI
     have Mm:F6 s₂.heap.objs.size=none:=by rw[JV.old KI (fun _ z=>nomatch z)];exact Ml
     have Ov:vs.length<sizeLine:=by
      have:=Ke.len
      have:=eE
      omega
     refine pass ?_
     refine bK (qe _ s6 _ H6 (.ref s₂.heap.objs.size) [v] (.ref s₂.heap.objs.size) [xv] (fun _ H7=>H7=upd H6 s₂.heap.objs.size (.lst (vs++[v]))) I6 rfl (.cons rv .nil) ⟨_,vs,v,rfl,rfl,Nw,Ov,rfl⟩) ?_
     rintro _ s7 ⟨_,H7,I7,_,rfl⟩
     have Np:Ext F2 H2 F6 (upd H6 s₂.heap.objs.size (.lst (vs++[v]))):=by
      have e:=vF.trans (Ci.trans (Fs.trans JV))
      refine⟨fun b u q=>?_,e.ff,fun b u q=>?_,e.new⟩
      ·rw[ax (LC b u q)];exact e.hh b u q
      ·rw[ax (fun z=>by rw[z,Mm] at q;cases q)];exact e.fh b u q
     refine⟨ds.length - (i+1),by omega,i+1,F6,_,vs++[v],ys++[yv],vt.map some,rfl,eZ,?_,I7.unpinned,(xu I7).1,(xu I7).2,Np,aD,Mm,
      DenL.append (DenL.mono (Ci.trans (Fs.trans JV)).ff Ke) (.cons qv .nil),H0⟩
     have h1:=I5.len
     have h2:=I3.len
     rw[List.length_append] at h1 h2
     omega
   ·
    have hi:i=ds.length:=by omega
    subst hi
    rw[List.drop_length] at heq
    have NC:R=ys:=by
     rw[heq] at hR
     have hR:M.ret (ys++[])=M.ret R:=hR
     rw[←fJ hR,List.append_nil]
    subst NC
    refine pass ?_
    rw[hP,hw]
    refine bK (T.done X' hP hw hK EE ds.length [] s' (σt++σ) H' X'.xe I' (Fu Mo) oM ((MW F' H' ds.length vF.ff vF.fh).2 (Nat.le_refl _))) ?_
    rintro r s1 ⟨rfl,I1⟩
    obtain⟨m,hm,_⟩:=I1.loc
    rw[z5] at hm
    have Nv:H' HL.objs.size=none:=by
     have:=I1.free
     rw[z5] at this
     exact this
    have u:=I1.base
    rw[NN,hex,Nx,MN] at u
    have As:s1.os=s₂.os:=by have:=I1.os;rw[MN] at this;exact this
    have Ia:=I1.hok
    rw[hP,hw] at Ia
    refine NB s1 HL.objs.size s₂.heap.objs.size H' (I2.call' (s':=s1) (ch:=fp) As u Ia I1.bare (fun b hb=>⟨(f2 b hb).2.2.2.1,(f2 b hb).2.1,(f2 b hb).2.2.2.2.1,(f2 b hb).2.2.2.2.2⟩)) ?_
     ⟨⟨m,hm⟩,Nv,Nat.ne_of_gt (Nat.lt_trans I2.lt yz),Nat.le_trans I2.sz (Nat.le_of_lt yz),fun x c q z=>?_,fun p hp z=>?_⟩
    rotate_left
    ·obtain⟨v,q'⟩:=I2.cell x c q
     exact absurd (Nat.lt_trans q'.lt yz) (by rw[z];exact Nat.lt_irrefl _)
    ·exact absurd (Nat.lt_trans (Heap.lt_size (I2.pin p hp).1) yz) (by rw[z];exact Nat.lt_irrefl _)
    refine WP.fin w2 (F':=upd F' s₂.heap.objs.size (.lst vs)) ⟨vF.hh,fun b u q=>?_,fun b u q=>?_,fun a ha=>?_⟩ ⟨_,vs,rfl,aD,DenL.mono (fun b u q=>?_) Ke,My⟩
    ·rw[ax (fun z=>by have:=vF.ff b u q;rw[z,fD] at this;cases this)];exact vF.ff b u q
    ·by_cases z:b=s₂.heap.objs.size
     ·rw[z,aD] at q;rw[z,hD];exact q
     ·rw[ax z] at q;exact vF.fh b u q
    ·rcases vF.new a ha with q | q
     ·exact .inl (by rw[ax (fun z=>ha (by rw[z];exact nD))];exact q)
     ·exact .inr q
    ·rw[ax (fun z=>by rw[z,fD] at q;cases q)];exact q
  ·rw[FK]
   refine⟨0,F2,_,[],[],List.replicate (max n 1) none,by simp,Nat.zero_le _,by simp,I0,T.keep _ _ _ wG (fun b hb o e=>old b o e),fun b hb=>?_,⟨fun b u q=>?_,Same.refl _,fun b u q=>?_,fun _ _=> .inl rfl⟩,aD,Same.free e2.fh nD,rfl,?_⟩
   ·rw[ax (Nat.ne_of_lt (fl b hb))];exact(f2 b hb).1
   ·rw[ax (LC b u q)];exact q
   ·rw[ax (LC b u (e2.fh b u q))];exact e2.fh b u q
   ·rw[List.drop_zero]
    rcases(dj (gM n δt δe ρ) ds).cs with hq | ⟨m,hq⟩ | ⟨R,hq⟩<;>rw[hq]<;>rfl
 exact codeAny_compStart_list (loop _ rfl) (T.self X.A 0 _ _ _ (T.keep _ _ _ wG (fun b hb o e=>old b o e)) (loop _ rfl))
theorem Inv.block{X:Cx}{pins:List (Addr×Obj)}{σ:St}{H':Hp}{s1:Shared}{C:Addr}{h':Heap}(I:Inv X pins σ H' s1)(b:BlockEnd X pins C H' s1)(Iv:Heap.SameBut C s1.heap h'):Inv X pins σ H' {s1 with heap:=h'}:=
 I.turned (t':=s1.toks) (fun a o ha e=>(Iv.2 a ha).trans e) b.free b.nl (.inr b.nw) b.nc b.np
section
variable{X:Cx}{Xw:Nat→Hp→Prop}{elt iter tg:Expr}{ifs:List Expr}{scope:Scope}{pos:Pos}{tn:List Str}{n:Nat}{δi:DA}{δt:DT}{δe:DE}
theorem iW(sc:CompSc X scope tn)(hn:tn.length=max n 1)(hc:X.calm=true)(hi:ve X Xw tg iter δi)
 (hg:∀pins cl C fp s₂ H σ,zF (jb X scope tn pins cl C fp s₂ H) tg n σ)
 (ht:∀pins cl C fp s₂ H,kx (jb X scope tn pins cl C fp s₂ H) ifs δt)
 (he:∀pins cl C fp s₂ H,PD (jb X scope tn pins cl C fp s₂ H) (fun _ _=>False) elt δe)
 (hs:∀x,foldedSetIterable iter X.env x=pure x:=by intro _;rfl):
 PD X Xw (.ListComp elt [⟨tg,iter,ifs,0⟩] scope pos) (bE n δi δt δe):=by
 intro pins s σ H Q I ⟨F,ρ,S,w⟩
 obtain⟨cl,An,zR,G_⟩:=m9 (scope:=scope) (env:=X.env) fun y hy hf=>I.ok.has y.1 (sc.frees y hy hf)
 rw[eval_ListComp]
 refine wpAny_comprehension_free (use:=none) rfl hs An sc.kind sc.names (tq (RR:=fun acc C=>compPost (model X.prog X.w) X.A X.xe none (EP X pins σ Q) acc C) sc hn hc hi hg ht he I S w zR G_ fun s1 C D H' I1 q b=>?_)
 obtain⟨m,hm⟩:=b.ns
 exact⟨m,hm,fun h' Iv=>⟨.ref D,H',Inv.block I1 b Iv,rfl,q⟩⟩
end
inductive Out where
 |nx (ρ:aX) | rt (d:D)
abbrev DS:=aX→M Out
structure StOk (K:W.Frag) (F₀ H₀ F H:Hp) (σ:St) (ρ:aX):Prop where
 ext:Ext F₀ H₀ F H
 st:StE K F H σ ρ
 len:ρ.length=σ.length
 own:∀(i:Nat) (c:C) (a:Addr),ρ[i]? =some (some (.ow c))→σ[i]? =some (some (.ref a))→H₀ a=none
 sep:∀(i j:Nat) (c c':C) (a:Addr),ρ[i]? =some (some (.ow c))→ρ[j]? =some (some (.ow c'))→σ[i]? =some (some (.ref a))→σ[j]? =some (some (.ref a))→i=j
def WPS(K:W.Frag)(Xw:Nat→Hp→Prop)(F₀ H₀:Hp)(m:M Out)(Dn:Ends):Prop:=
 match m with
 |none=>False
 |some (.ok (.nx ρ))=>∀σ F H,StOk K F₀ H₀ F H σ ρ→Dn.nx σ H
 |some (.ok (.rt d))=>∀v F H,Ext F₀ H₀ F H→Den K F d v→Dn.rt v H
 |some (.ex n)=>∀F H,Ext F₀ H₀ F H→Xw n H
def tS(K:W.Frag)(Xw:Nat→Hp→Prop)(F₀ H₀:Hp)(τ:DS):TS:=fun Dn σ H=>∃F ρ,StOk K F₀ H₀ F H σ ρ∧WPS K Xw F₀ H₀ (τ ρ) Dn
def gS(X:Cx)(Xw:Nat→Hp→Prop)(st:Stmt)(τ:DS):Prop:=∀F₀ H₀,PS X st (tS X.K Xw F₀ H₀ τ)
def PSDs(X:Cx)(Xw:Nat→Hp→Prop)(st:List Stmt)(τ:DS):Prop:=∀F₀ H₀,PSs X st (tS X.K Xw F₀ H₀ τ)
theorem PS.weak{X:Cx}{st:Stmt}{t t':TS}(h:PS X st t)(k:∀D σ H,t' D σ H→t D σ H):PS X st t':=fun pins s σ H D I w=>h pins s σ H D I (k D σ H w)
theorem PSs.weak{X:Cx}{st:List Stmt}{t t':TS}(h:PSs X st t)(k:∀D σ H,t' D σ H→t D σ H):PSs X st t':=fun pins s σ H D I w=>h pins s σ H D I (k D σ H w)
section
variable{K:W.Frag}{Xw:Nat→Hp→Prop}{F₀ H₀ F H F' H':Hp}{σ:St}{ρ:aX}
theorem StOk.ext'(s:StOk K F₀ H₀ F H σ ρ)(e:Ext F H F' H'):StOk K F₀ H₀ F' H' σ ρ:=⟨s.ext.trans e,s.st.ext e,s.len,s.own,s.sep⟩
theorem StOk.set(s:StOk K F₀ H₀ F H σ ρ){i:Nat}{d:D}{v:V}(h:Den K F d v):StOk K F₀ H₀ F H (σ.set i (some v)) (ρ.set i (some (.fz d))):=by
 have hl:=s.len
 have get:∀(j:Nat) (sl:Sl),(ρ.set i (some (.fz d)))[j]? =some (some sl)→(j=i∧i<ρ.length∧sl= .fz d)∨(j≠i∧ρ[j]? =some (some sl)):=fun j sl e=>by
  by_cases hj:j=i
  ·subst hj
   have hi:j<ρ.length:=by
    have:=(List.getElem?_eq_some_iff.mp e).1
    simpa using this
   rw[List.getElem?_set_self hi] at e
   cases e
   exact .inl ⟨rfl,hi,rfl⟩
  ·rw[List.getElem?_set_ne (Ne.symm hj)] at e
   exact .inr ⟨hj,e⟩
 refine⟨s.ext,⟨s.st.fh,fun j sl e=>?_⟩,by simp[hl],fun j c a e e'=>?_,fun j k c c' a e1 e2 e3 e4=>?_⟩
 ·rcases get j sl e with⟨rfl,hi,rfl⟩ | ⟨hj,e⟩
  ·exact⟨v,by rw[List.getElem?_set_self (by omega)],h⟩
  ·obtain⟨u,h1,h2⟩:=s.st.den j sl e
   exact⟨u,by rw[List.getElem?_set_ne (Ne.symm hj)];exact h1,h2⟩
 ·rcases get j _ e with⟨_,_,z⟩ | ⟨hj,e⟩
  ·cases z
  ·rw[List.getElem?_set_ne (Ne.symm hj)] at e'
   exact s.own j c a e e'
 ·rcases get j _ e1 with⟨_,_,z⟩ | ⟨hj,e1⟩
  ·cases z
  ·rcases get k _ e2 with⟨_,_,z⟩ | ⟨hk,e2⟩
   ·cases z
   ·rw[List.getElem?_set_ne (Ne.symm hj)] at e3
    rw[List.getElem?_set_ne (Ne.symm hk)] at e4
    exact s.sep j k c c' a e1 e2 e3 e4
theorem StOk.setNew(s:StOk K F₀ H₀ F H σ ρ){i:Nat}{a:Addr}{o:HO}{c₀:C}(n:H a=none)(h:DenC K F c₀ o):
 StOk K F₀ H₀ F (upd H a o) (σ.set i (some (.ref a))) (ρ.set i (some (.ow c₀))):=by
 have hle:=s.len
 have e0:=Ext.free (o:=o) s.st.fh n
 have nF:F a=none:=Same.free s.st.fh n
 have get:∀(j:Nat) (sl:Sl),(ρ.set i (some (.ow c₀)))[j]? =some (some sl)→(j=i∧i<ρ.length∧sl= .ow c₀)∨(j≠i∧ρ[j]? =some (some sl)):=fun j sl e=>by
  by_cases hj:j=i
  ·subst hj
   have hi:j<ρ.length:=by
    have:=(List.getElem?_eq_some_iff.mp e).1
    simpa using this
   rw[List.getElem?_set_self hi] at e
   cases e
   exact .inl ⟨rfl,hi,rfl⟩
  ·rw[List.getElem?_set_ne (Ne.symm hj)] at e
   exact .inr ⟨hj,e⟩
 have old:∀(j:Nat) (c:C) (b:Addr),ρ[j]? =some (some (.ow c))→σ[j]? =some (some (.ref b))→b≠a:=fun j c b e e' z=>by
  obtain⟨u,h1,b',o,h2,h3,_⟩:=s.st.den j _ e
  rw[h1] at e'
  cases e'
  cases h2
  rw[z,n] at h3
  cases h3
 refine⟨s.ext.trans e0,⟨e0.fh,fun j sl e=>?_⟩,by simp[hle],fun j c b e e'=>?_,fun j k c c' b e1 e2 e3 e4=>?_⟩
 ·rcases get j sl e with⟨rfl,hi,rfl⟩ | ⟨hj,e⟩
  ·exact⟨.ref a,by rw[List.getElem?_set_self (by omega)],a,_,rfl,aD,nF,h⟩
  ·obtain⟨u,h1,h2⟩:=s.st.den j sl e
   exact⟨u,by rw[List.getElem?_set_ne (Ne.symm hj)];exact h1,h2.ext e0⟩
 ·rcases get j _ e with⟨rfl,hi,_⟩ | ⟨hj,e⟩
  ·rw[List.getElem?_set_self (by omega)] at e'
   cases e'
   exact Same.free s.ext.hh n
  ·rw[List.getElem?_set_ne (Ne.symm hj)] at e'
   exact s.own j c b e e'
 ·rcases get j _ e1 with⟨rfl,hi,_⟩ | ⟨hj,e1⟩
  ·rw[List.getElem?_set_self (by omega)] at e3
   cases e3
   rcases get k _ e2 with⟨rfl,_,_⟩ | ⟨hk,e2⟩
   ·rfl
   ·rw[List.getElem?_set_ne (Ne.symm hk)] at e4
    exact absurd rfl (old k c' a e2 e4)
  ·rcases get k _ e2 with⟨K9,hi,_⟩ | ⟨hk,e2⟩
   ·rw[K9,List.getElem?_set_self (by omega)] at e4
    cases e4
    rw[List.getElem?_set_ne (Ne.symm hj)] at e3
    exact absurd rfl (old j c a (by assumption) e3)
   ·rw[List.getElem?_set_ne (Ne.symm hj)] at e3
    rw[List.getElem?_set_ne (Ne.symm hk)] at e4
    exact s.sep j k c c' b e1 e2 e3 e4
theorem StOk.chg(s:StOk K F₀ H₀ F H σ ρ){i:Nat}{a:Addr}{c c₀:C}{o₀:HO}(hi:ρ[i]? =some (some (.ow c)))(ha:σ[i]? =some (some (.ref a)))(h:DenC K F c₀ o₀):
 StOk K F₀ H₀ F (upd H a o₀) σ (ρ.set i (some (.ow c₀))):=by
 have hle:=s.len
 have h0:=s.own i c a hi ha
 obtain⟨u,q1,a',o,q2,q3,q4,q5⟩:=s.st.den i _ hi
 rw[ha] at q1
 cases q1
 cases q2
 have EJ:i<ρ.length:=(List.getElem?_eq_some_iff.mp hi).1
 have get:∀(j:Nat) (sl:Sl),(ρ.set i (some (.ow c₀)))[j]? =some (some sl)→(j=i∧sl= .ow c₀)∨(j≠i∧ρ[j]? =some (some sl)):=fun j sl e=>by
  by_cases hj:j=i
  ·subst hj
   rw[List.getElem?_set_self EJ] at e
   cases e
   exact .inl ⟨rfl,rfl⟩
  ·rw[List.getElem?_set_ne (Ne.symm hj)] at e
   exact .inr ⟨hj,e⟩
 have fh:Same F (upd H a o₀):=fun b o e=>by
  rw[ax (fun z=>by rw[z,q4] at e;cases e)];exact s.st.fh b o e
 refine⟨⟨fun b o e=>?_,s.ext.ff,fh,s.ext.new⟩,⟨fh,fun j sl e=>?_⟩,by simp[hle],fun j c' b e e'=>?_,fun j k c1 c2 b e1 e2 e3 e4=>?_⟩
 ·rw[ax (fun z=>by rw[z,h0] at e;cases e)];exact s.ext.hh b o e
 ·rcases get j sl e with⟨rfl,rfl⟩ | ⟨hj,e⟩
  ·exact⟨.ref a,ha,a,_,rfl,aD,q4,h⟩
  ·obtain⟨u,h1,h2⟩:=s.st.den j sl e
   refine⟨u,h1,?_⟩
   cases sl with
   |fz d=>exact h2
   |ow c'=>
    obtain⟨b,o',r1,r2,r3,r4⟩:=h2
    refine⟨b,o',r1,?_,r3,r4⟩
    rw[ax (fun z=>hj (s.sep j i c' c a e hi (by rw[h1,r1,z]) ha))];exact r2
 ·rcases get j _ e with⟨rfl,_⟩ | ⟨hj,e⟩
  ·rw[ha] at e';cases e';exact h0
  ·exact s.own j c' b e e'
 ·have k1:∃c,ρ[j]? =some (some (.ow c)):=by
   rcases get j _ e1 with⟨rfl,_⟩ | ⟨_,e⟩
   ·exact⟨c,hi⟩
   ·exact⟨_,e⟩
  have k2:∃c,ρ[k]? =some (some (.ow c)):=by
   rcases get k _ e2 with⟨rfl,_⟩ | ⟨_,e⟩
   ·exact⟨c,hi⟩
   ·exact⟨_,e⟩
  obtain⟨_,k1⟩:=k1
  obtain⟨_,k2⟩:=k2
  exact s.sep j k _ _ b k1 k2 e3 e4
def frz(i:Nat)(ρ:aX):aX:=match ρ[i]? with
 |some (some (.ow c))=>ρ.set i (some (.fz c.d))
 |_=>ρ
theorem StOk.frz(s:StOk K F₀ H₀ F H σ ρ)(i:Nat)(obj:Addr→Obj):(∃a o,H a=some o∧DenC K F (ρ[i]?.elim (.lst []) fun x=>x.elim (.lst []) fun y=>match y with | .ow c=>c | _=> .lst []) o∧σ[i]? =some (some (.ref a))∧StOk K F₀ H₀ (upd F a (my (obj a) o)) (upd H a (my (obj a) o)) σ (frz i ρ))∨frz i ρ=ρ:=by
 unfold L3.frz
 split
 ·rename_i c₀ hi
  have hle:=s.len
  obtain⟨u,ha,a,o,rfl,q3,q4,EG⟩:=s.st.den i _ hi
  refine .inl ⟨a,o,q3,by rw[hi];exact EG,ha,?_⟩
  have h0:=s.own i _ a hi ha
  have EJ:i<ρ.length:=(List.getElem?_eq_some_iff.mp hi).1
  have ff:Same F (upd F a (my (obj a) o)):=fun b o e=>by rw[ax (fun z=>by rw[z,q4] at e;cases e)];exact e
  have fh:Same (upd F a (my (obj a) o)) (upd H a (my (obj a) o)):=fun b o e=>by
   by_cases z:b=a
   ·rw[z,aD] at e⊢;exact e
   ·rw[ax z] at e⊢;exact s.st.fh b o e
  have get:∀(j:Nat) (sl:Sl),(ρ.set i (some (.fz c₀.d)))[j]? =some (some sl)→(j=i∧sl= .fz c₀.d)∨(j≠i∧ρ[j]? =some (some sl)):=fun j sl e=>by
   by_cases hj:j=i
   ·subst hj
    rw[List.getElem?_set_self EJ] at e
    cases e
    exact .inl ⟨rfl,rfl⟩
   ·rw[List.getElem?_set_ne (Ne.symm hj)] at e
    exact .inr ⟨hj,e⟩
  refine⟨⟨fun b u q=>?_,s.ext.ff.trans ff,fh,fun b hb=>?_⟩,⟨fh,fun j sl e=>?_⟩,by simp[hle],fun j c' b e e'=>?_,fun j k c1 c2 b e1 e2 e3 e4=>?_⟩
  ·rw[ax (fun z=>by rw[z,h0] at q;cases q)];exact s.ext.hh b u q
  ·rcases s.ext.new b hb with q | q
   ·exact .inl (by rw[ax (fun z=>hb (by rw[z];exact h0))];exact q)
   ·exact .inr q
  ·rcases get j sl e with⟨rfl,rfl⟩ | ⟨hj,e⟩
   ·exact⟨.ref a,ha,DenC.den EG ff aD⟩
   ·obtain⟨u,h1,h2⟩:=s.st.den j sl e
    refine⟨u,h1,?_⟩
    cases sl with
    |fz d=>exact Den.mono ff h2
    |ow c'=>
     obtain⟨b,o',r1,r2,r3,r4⟩:=h2
     have g0:b≠a:=fun z=>hj (s.sep j i c' _ a e hi (by rw[h1,r1,z]) ha)
     exact⟨b,o',r1,by rw[ax g0];exact r2,by rw[ax g0];exact r3,DenC.mono ff r4⟩
  ·rcases get j _ e with⟨_,z⟩ | ⟨hj,e⟩
   ·cases z
   ·exact s.own j c' b e e'
  ·rcases get j _ e1 with⟨_,z⟩ | ⟨_,e1⟩
   ·cases z
   ·rcases get k _ e2 with⟨_,z⟩ | ⟨_,e2⟩
    ·cases z
    ·exact s.sep j k _ _ b e1 e2 e3 e4
 ·exact .inr rfl
end
def join(F H:Hp):Hp:=fun a=>match F a with
 |some o=>some o
 |none=>H a
theorem StOk.rebase{K:W.Frag}{F₀ H₀ F H:Hp}{σ:St}{ρ:aX}(s:StOk K F₀ H₀ F H σ ρ):StOk K F (join F H₀) F H σ ρ∧∀F' H',Ext F (join F H₀) F' H'→Ext F₀ H₀ F' H':=by
 have hj:Same (join F H₀) H:=fun b o e=>by
  unfold join at e
  cases q:F b with
  |some u=>rw[q] at e;cases e;exact s.st.fh b _ q
  |none=>rw[q] at e;exact s.ext.hh b o e
 have h0:Same H₀ (join F H₀):=fun b o e=>by
  unfold join
  cases q:F b with
  |some u=>
   have h1:=s.st.fh b u q
   rw[s.ext.hh b o e] at h1
   exact h1.symm
  |none=>exact e
 refine⟨⟨⟨hj,Same.refl _,s.st.fh,fun _ _=> .inl rfl⟩,s.st,s.len,fun i c a e e'=>?_,s.sep⟩,fun F' H' x=>⟨h0.trans x.hh,s.ext.ff.trans x.ff,x.fh,fun a ha=>?_⟩⟩
 ·have h1:=s.own i c a e e'
  obtain⟨v,q1,a',o,q2,q3,q4,_⟩:=s.st.den i _ e
  rw[e'] at q1
  cases q1
  cases q2
  unfold join
  rw[q4]
  exact h1
 ·have:join F H₀ a≠none:=by
   cases q:H₀ a with
   |none=>exact absurd q ha
   |some o=>rw[h0 a o q];exact fun z=>nomatch z
  rcases s.ext.new a ha with p | p
  ·rcases x.new a this with q | ⟨ts,q⟩
   ·exact .inl (q.trans p)
   ·cases z:H₀ a with
    |none=>exact absurd z ha
    |some o=>
     rw[h0 a o z] at q
     exact .inr ⟨ts,q⟩
  ·exact .inr p
theorem StOk.unbase{K:W.Frag}{F₀ H₀ F U F' H':Hp}{σ:St}{ρ:aX}(k:∀F' H',Ext F U F' H'→Ext F₀ H₀ F' H')(s:StOk K F U F' H' σ ρ)(h:Same H₀ U):StOk K F₀ H₀ F' H' σ ρ:=
 ⟨k _ _ s.ext,s.st,s.len,fun i c a e e'=>Same.free h (s.own i c a e e'),s.sep⟩
theorem yH{K:W.Frag}{F₀ H₀ F H:Hp}{σ:St}{ρ:aX}(s:StOk K F₀ H₀ F H σ ρ):Same H₀ (join F H₀):=fun b o e=>by
 unfold join
 cases q:F b with
 |some u=>
  have h1:=s.st.fh b u q
  rw[s.ext.hh b o e] at h1
  exact h1.symm
 |none=>exact e
theorem Inv.refrz{X:Cx}{pins:List (Addr×Obj)}{σ:St}{H:Hp}{s:Shared}{a:Addr}{o o':HO}(I:Inv X pins σ H s)(e:H a=some o)
 (ho:o'=o∨∃u,o'= .frz ((s.heap.get? a).getD {cls:= .none,data:= .fields #[]}) u∧((∃k,o= .dT k∧u= .dT k)∨∃k,o= .dK k∧u= .dK k)):Inv X pins σ (upd H a o') s:=by
 rcases ho with rfl | ⟨u,rfl,hu⟩
 ·have:upd H a o'=H:=by
   funext b
   by_cases z:b=a
   ·rw[z,aD,e]
   ·rw[ax z]
  rw[this];exact I
 have Ob:o=u:=by rcases hu with⟨k,h1,h2⟩ | ⟨k,h1,h2⟩<;>rw[h1,h2]
 subst Ob
 have nt:∀ts,o≠ .tup ts:=fun ts z=>by rcases hu with⟨k,h1,_⟩ | ⟨k,h1,_⟩<;>rw[h1] at z<;>cases z
 have nf:∀ob v,o≠ .frz ob v:=fun ob v z=>by rcases hu with⟨k,h1,_⟩ | ⟨k,h1,_⟩<;>rw[h1] at z<;>cases z
 have nb:∀p,o≠ .tbl p:=fun p z=>by rcases hu with⟨k,h1,_⟩ | ⟨k,h1,_⟩<;>rw[h1] at z<;>cases z
 have no:∀p,o≠ .own p:=fun p z=>by rcases hu with⟨k,h1,_⟩ | ⟨k,h1,_⟩<;>rw[h1] at z<;>cases z
 have ne:∀b,H b=none→b≠a:=fun b hb z=>by rw[z,e] at hb;cases hb
 have hk:=I.hok a o e
 have eZ:=hk.lt
 obtain⟨ob,Im⟩:∃ob,s.heap.get? a=some ob:=by
  rcases hu with⟨k,h1,_⟩ | ⟨k,h1,_⟩
  ·subst h1;obtain⟨_,_,_,_,ob,_,_,q,_⟩:=hk;exact⟨ob,q⟩
  ·subst h1;obtain⟨_,_,_,_,ob,_,_,q,_⟩:=hk;exact⟨ob,q⟩
 rw[Im]
 refine⟨I.ok,I.os,I.bare,⟨I.base.keep,I.base.slot,fun b q h1 h2 h3=>?_,I.base.there,fun b xs q=>?_,fun b q1 v q=>?_,fun b ps q=>?_⟩,I.loc,I.cell,?_,fun x c q=>?_,fun p hp=>?_,fun b v q=>?_,I.len⟩
 ·have:=I.base.free b q h1 h2 h3
  rw[ax (ne b this)];exact this
 ·have:=I.base.tups b xs q
  rw[ax (fun z=>by rw[z,e] at this;exact nt xs (Option.some.inj this))];exact this
 ·have:=I.base.frzs b q1 v q
  rw[ax (fun z=>by rw[z,e] at this;exact nf _ _ (Option.some.inj this))];exact this
 ·obtain⟨m,this⟩:=I.base.tbls b ps q
  exact⟨m,by rw[ax (fun z=>by rw[z,e] at this;exact nb _ (Option.some.inj this))];exact this⟩
 ·rw[ax (ne _ I.free)];exact I.free
 ·rw[ax (ne _ (I.freeC x c q))];exact I.freeC x c q
 ·obtain⟨h1,h2,h3⟩:=I.pin p hp
  exact⟨h1,by rw[ax (ne _ h2)];exact h2,h3⟩
 ·have st:∀{c:Addr}{v:HO},ObjOk X.prog X.w H s.heap c v→ObjOk X.prog X.w (upd H a (.frz ob o)) s.heap c v:=fun {c v} k=>k.stay (fun _ _ _ q=>q)
   (fun c' q=>by rw[ax (fun z=>by rw[z,e] at q;exact no _ (Option.some.inj q))];exact q) fun c' xs q=>by rw[ax (fun z=>by rw[z,e] at q;exact nt _ (Option.some.inj q))];exact q
  by_cases z:b=a
  ·subst z
   rw[show (some ob).getD _=ob from rfl,aD] at q
   cases q
   exact⟨Im,st hk⟩
  ·rw[ax z] at q
   exact st (I.hok b v q)
def aA(a b:DS):DS:=fun ρ=>a ρ>>=fun o=>match o with | .nx ρ'=>b ρ' | .rt d=>M.ret (.rt d)
def cw:DS:=fun ρ=>M.ret (.nx ρ)
def a_(δ:DE):DS:=fun ρ=>δ ρ>>=fun d=>M.ret (.rt d)
def i9(δ:DE):DS:=fun ρ=>δ ρ>>=fun _=>M.ret (.nx ρ)
def bz(i:Nat)(δ:DE):DS:=fun ρ=>δ ρ>>=fun d=>M.ret (.nx (ρ.set i (some (.fz d))))
def fK(c:DT)(a b:DS):DS:=fun ρ=>c ρ>>=fun x=>if x then a ρ else b ρ
def xU(i:Nat)(a:DS):DS:=fun ρ=>a (frz i ρ)
def su(i:Nat):DS:=fun ρ=>M.ret (.nx (ρ.set i (some (.ow (.lst [])))))
def y9(ρ:aX)(i:Nat):Option (List D):=match ρ[i]? with
 |some (some (.ow (.lst ds)))=>some ds
 |_=>none
theorem ql{ρ:aX}{i:Nat}{ds:List D}(h:y9 ρ i=some ds):ρ[i]? =some (some (.ow (.lst ds))):=by
 unfold y9 at h
 split at h
 ·rename_i ds' e
  cases h
  exact e
 ·cases h
def i8(i:Nat)(δ:DE):DS:=fun ρ=>match y9 ρ i with
 |some ds=>δ ρ>>=fun d=>if ds.length<lim then M.ret (.nx (ρ.set i (some (.ow (.lst (ds++[d])))))) else M.stuck
 |none=>M.stuck
def BO(i:Nat)(δ:DE):DS:=fun ρ=>match y9 ρ i with
 |some ds=>δ ρ>>=fun d=>lstM d>>=fun es=>if ds.length+es.length≤lim then M.ret (.nx (ρ.set i (some (.ow (.lst (ds++es)))))) else M.stuck
 |none=>M.stuck
def forL(put:D→aX→Option aX)(body:DS):List D→DS
 |[],ρ=>M.ret (.nx ρ)
 |d::ds,ρ=>(match put d ρ with | none=>M.stuck | some ρ1=>body ρ1>>=fun o=>match o with | .nx ρ2=>forL put body ds ρ2 | .rt v=>M.ret (.rt v))
def putN(i:Nat):D→aX→Option aX:=fun d ρ=>some (ρ.set i (some (.fz d)))
def d_(put:D→aX→Option aX)(δi:DA)(body:DS):DS:=fun ρ=>δi ρ>>=fun ds=>forL put body ds ρ
section
variable{X:Cx}{Xw:Nat→Hp→Prop}{F₀ H₀:Hp}{st:Stmt}{rest:List Stmt}{τ τ':DS}{e:Expr}{δ:DE}{pos:Pos}
theorem aZ:PSDs X Xw [] cw:=fun F₀ H₀=>PSs.weak DY fun D σ H ⟨F,ρ,s,w⟩=>w σ F H s
theorem ag(h1:gS X Xw st τ)(h2:PSDs X Xw rest τ'):PSDs X Xw (st::rest) (aA τ τ'):=fun F₀ H₀=>PSs.weak (BB (h1 F₀ H₀) (h2 F₀ H₀)) fun D σ H ⟨F,ρ,s,w⟩=>by
 refine⟨F,ρ,s,?_⟩
 unfold aA at w
 match τ ρ,w with
 |none,w=>exact w
 |some (.ok (.nx ρ')),w=>exact fun σ' F' H' s'=>⟨F',ρ',s',w⟩
 |some (.ok (.rt d)),w=>exact w
 |some (.ex n),w=>exact w
theorem ao(h1:gS X Xw st τ):PSDs X Xw [st] τ:=fun F₀ H₀=>DZ (h1 F₀ H₀)
theorem dO{i:Nat}(h:gS X Xw st τ):gS X Xw st (xU i τ):=fun F₀ H₀ pins sh σ H D I ⟨F,ρ,s,w⟩=>by
 rcases s.frz i (fun a=>(sh.heap.get? a).getD {cls:= .none,data:= .fields #[]}) with⟨a,o,ha,hc,hσ,s'⟩ | e
 ·refine h F₀ H₀ pins sh σ _ D (L3.Inv.refrz I ha ?_) ⟨_,_,s',w⟩
  generalize (ρ[i]?.elim (C.lst []) fun x=>x.elim (.lst []) fun y=>match y with | .ow c=>c | _=> .lst [])=c at hc
  cases c with
  |lst ds=>obtain⟨vs,rfl,_⟩:=hc;exact .inl rfl
  |dct ks ds=>obtain⟨vs,rfl,_⟩:=hc;exact .inr ⟨_,rfl, .inl ⟨_,rfl,rfl⟩⟩
  |dci ks ds=>obtain⟨vs,rfl,_⟩:=hc;exact .inr ⟨_,rfl, .inr ⟨_,rfl,rfl⟩⟩
 ·exact h F₀ H₀ pins sh σ H D I ⟨F,ρ,s,by unfold xU at w;rw[e] at w;exact w⟩
theorem az(h:PD X Xw e δ):gS X Xw (.Return (some e) pos) (a_ δ):=fun F₀ H₀=>PS.weak (GD h) fun D σ H ⟨F,ρ,s,w⟩=>by
 refine⟨F,ρ,s.st,?_⟩
 unfold a_ at w
 match δ ρ,w with
 |none,w=>exact w
 |some (.ok d),w=>exact fun v H' F' e' q=>w v F' H' (s.ext.trans e') q
 |some (.ex n),w=>exact fun F' H' e'=>w F' H' (s.ext.trans e')
theorem da(h:PD X Xw e δ)(hs:swapsWith e none pos.line X.env=pure false:=by rfl):gS X Xw (.Expr e pos) (i9 δ):=fun F₀ H₀=>PS.weak (mT h hs) fun D σ H ⟨F,ρ,s,w⟩=>by
 refine⟨F,ρ,s.st,?_⟩
 unfold i9 at w
 match δ ρ,w with
 |none,w=>exact w
 |some (.ok d),w=>exact fun v H' F' e' q=>w σ F' H' (s.ext' e')
 |some (.ex n),w=>exact fun F' H' e'=>w F' H' (s.ext.trans e')
theorem aR{i:Nat}{x:Str}{pos':Pos}(hN:X.N.Nodup)(hi:X.N[i]? =some x)(hx:Loc X.env.scope x)(he:PD X Xw e δ)(hf:X.fn x=true∨X.env.scope.names.lookup x=some .local:=by first | exact .inl rfl | exact .inr rfl)
 (hs:swapsWithSole [.Name x pos'] e pos.line X.env=pure false:=by rfl):
 gS X Xw (.Assign [.Name x pos'] e pos) (bz i δ):=fun F₀ H₀=>PS.weak (sd he (bc hN hi hx hf) hs) fun D σ H ⟨F,ρ,s,w⟩=>by
 refine⟨F,ρ,s.st,?_⟩
 unfold bz at w
 match δ ρ,w with
 |none,w=>exact w
 |some (.ok d),w=>exact fun v H' F' e' q=>w _ F' H' ((s.ext' e').set q)
 |some (.ex n),w=>exact fun F' H' e'=>w F' H' (s.ext.trans e')
theorem eu{elt iter tg:Expr}{ifs:List Expr}{scope:Scope}{aQ:Pos}{tn:List Str}{n:Nat}{δi:DA}{δt:DT}{δe:DE}{i:Nat}{x:Str}{pos':Pos}(hN:X.N.Nodup)(K4:X.N[i]? =some x)(hx:Loc X.env.scope x)
 (sc:CompSc X scope tn)(hn:tn.length=max n 1)(hc:X.calm=true)(hi:ve X Xw tg iter δi)
 (hg:∀pins cl C fp s₂ H σ,zF (jb X scope tn pins cl C fp s₂ H) tg n σ)
 (ht:∀pins cl C fp s₂ H,kx (jb X scope tn pins cl C fp s₂ H) ifs δt)
 (he:∀pins cl C fp s₂ H,PD (jb X scope tn pins cl C fp s₂ H) (fun _ _=>False) elt δe)
 (hf:X.fn x=true∨X.env.scope.names.lookup x=some .local:=by first | exact .inl rfl | exact .inr rfl)
 (Og:swapsWith (.ListComp elt [⟨tg,iter,ifs,0⟩] scope aQ) (some (.Name x pos')) pos.line X.env=pure true:=by rfl)
 (hs:∀x,foldedSetIterable iter X.env x=pure x:=by intro _;rfl):
 gS X Xw (.Assign [.Name x pos'] (.ListComp elt [⟨tg,iter,ifs,0⟩] scope aQ) pos) (bz i (bE n δi δt δe)):=fun F₀ H₀ pins s σ H D I ⟨F,ρ,S,w⟩=>by
 obtain⟨cl,An,zR,G_⟩:=m9 (scope:=scope) (env:=X.env) fun y hy hf=>I.ok.has y.1 (sc.frees y hy hf)
 have w':WP X.K Xw F H (bE n δi δt δe ρ) (fun v H'=>D.nx (σ.set i (some v)) H'):=by
  have w:WPS X.K Xw F₀ H₀ (bE n δi δt δe ρ>>=fun d=>M.ret (.nx (ρ.set i (some (.fz d))))) D:=w
  match bE n δi δt δe ρ,w with
  |none,w=>exact w
  |some (.ok d),w=>exact fun v H' F' e' q=>w _ F' H' ((S.ext' e').set q)
  |some (.ex n),w=>exact fun F' H' e'=>w F' H' (S.ext.trans e')
 rw[exec_Assign_Name_used _ _ _ _ Og]
 refine wpAny_bind (wpAny_standAt (wpAny_bind ?_))
 show wpAny _ X.A (do let _←comprehension (.ListComp elt [⟨tg,iter,ifs,0⟩] scope aQ) scope X.env _ (newList []) false (eval iter X.env) (some (assign (.Name x pos') X.env))) _ _ s
 refine wpAny_bind (wpAny_mono (wpAny_comprehension_free (use:=some (assign (.Name x pos') X.env)) (Q:=fun _ s'=>SP X pins D .next s') rfl hs An sc.kind sc.names
  (tq (RR:=fun acc C=>compPost (model X.prog X.w) X.A X.xe (some (assign (.Name x pos') X.env)) (fun _ s'=>SP X pins D .next s') acc C) sc hn hc hi hg ht he I S.st w' zR G_ fun s1 C D' H' I1 q b=>?_)) (fun _ s' hq=>wpAny_pure (wpAny_pure hq)) fun _ _ e=>e)
 show wpAny _ X.A (assign (.Name x pos') X.env (.ref D')) _ _ _
 refine wpAny_assign_Name (qI I1 hN K4 hx (v:= .ref D') rfl (fun s2 I2 ⟨a,sb,ha⟩=>?_) hf)
 have Nu:C≠a:=by
  rcases ha with z | z
  ·rw[z];exact b.nl
  ·exact Ne.symm (b.nc x a z)
 obtain⟨m,hm⟩:=b.ns
 have Ik:s2.heap.Ns C m:=hm.sameBut sb Nu
 refine⟨m,Ik,fun h' Iv=>⟨_,H',Inv.block I2 ⟨⟨m,Ik⟩,b.free,b.nl,b.nw,b.nc,b.np⟩ Iv,q⟩⟩
theorem bx{c:Expr}{a b:List Stmt}{tc:DT}(hc:ku X Xw c tc)(ha:PSDs X Xw a τ)(hb:PSDs X Xw b τ'):gS X Xw (.If c a b pos) (fK tc τ τ'):=fun F₀ H₀=>PS.weak (Jl hc (ha F₀ H₀) (hb F₀ H₀)) fun D σ H ⟨F,ρ,s,w⟩=>by
 refine⟨F,ρ,s.st,?_⟩
 unfold fK at w
 match tc ρ,w with
 |none,w=>exact w
 |some (.ok true),w=>exact fun H' F' e'=>⟨F',ρ,s.ext' e',w⟩
 |some (.ok false),w=>exact fun H' F' e'=>⟨F',ρ,s.ext' e',w⟩
 |some (.ex n),w=>exact fun F' H' e'=>w F' H' (s.ext.trans e')
theorem gA{i:Nat}{x:Str}{pos' uC:Pos}(hN:X.N.Nodup)(hi:X.N[i]? =some x)(hx:Loc X.env.scope x)(hf:X.fn x=true∨X.env.scope.names.lookup x=some .local:=by first | exact .inl rfl | exact .inr rfl):
 gS X Xw (.Assign [.Name x pos'] (.List [] uC) pos) (su i):=fun F₀ H₀=>PS.weak (sd (Bw rW) (bc hN hi hx hf) rfl) fun D σ H ⟨F,ρ,s,w⟩=>by
 refine⟨Nat.zero_le _,fun p hp=>?_⟩
 exact w _ F _ (s.setNew (c₀:= .lst []) hp ⟨[],rfl,rfl,Nat.zero_le _⟩)
def zE(K:W.Frag)(g:TG)(put:D→aX→Option aX):Prop:=∀(F₀ H₀ F H:Hp) (σ:St) (ρ ρ':aX) (d:D) (v:V) (Q:St→Hp→Prop),StOk K F₀ H₀ F H σ ρ→Den K F d v→put d ρ=some ρ'→
 (∀σ',StOk K F₀ H₀ F H σ' ρ'→Q σ' H)→g v σ H Q
theorem b8{K:W.Frag}{i:Nat}:zE K (Ag i) (putN i):=fun F₀ H₀ F H σ ρ ρ' d v Q s q e k=>by
 cases e
 exact k _ (s.set q)
def OV(K:W.Frag)(Xw:Nat→Hp→Prop)(τ:DS):TS:=fun D σ H=>∃F₀ H₀,tS K Xw F₀ H₀ τ D σ H
theorem PSDs.ex{body:List Stmt}(h:PSDs X Xw body τ):PSs X body (OV X.K Xw τ):=fun pins s σ H D I ⟨F₀,H₀,w⟩=>h F₀ H₀ pins s σ H D I w
theorem bW{tg iter:Expr}{body:List Stmt}{δi:DA}{g:TG}{put:D→aX→Option aX}(hp:PassesOwn (model X.prog X.w) X.A X.env X.xe)(hc:X.calm=true)(hi:ve X Xw tg iter δi)(hg:PG X tg g)(Lh:zE X.K g put)(hb:PSDs X Xw body τ)
 (hs:∀x,foldedSetIterable iter X.env x=pure x:=by intro _;rfl):gS X Xw (.For tg iter body [] pos) (d_ put δi τ):=fun F₀ H₀=>PS.weak (GC hp hc hi hg hb.ex hs) fun D σ H ⟨F,ρ,s,w⟩=>by
 refine⟨F,ρ,s.st,?_⟩
 unfold d_ at w
 match δi ρ,w with
 |none,w=>exact w
 |some (.ex n),w=>exact fun F' H' e'=>w F' H' (s.ext.trans e')
 |some (.ok ds),w=>
  have w:WPS X.K Xw F₀ H₀ (forL put τ ds ρ) D:=w
  intro J H1 F1 e1 MX
  obtain⟨s1,back⟩:=(s.ext' e1).rebase
  have hU:=yH (s.ext' e1)
  generalize join F1 H₀=U at s1 back hU
  refine⟨fun i m σ H=>m=ds.length - i∧i≤ds.length∧∃F ρ,StOk X.K F1 U F H σ ρ∧WPS X.K Xw F₀ H₀ (forL put τ (ds.drop i) ρ) D,⟨ds.length,by simp,Nat.zero_le _,F1,ρ,s1,by simpa using w⟩,?_⟩
  rintro i m σ2 H2 ⟨rfl,K5,F2,ρ2,s2,w2⟩
  by_cases eZ:i<ds.length
  ·obtain⟨d,hd⟩:∃d,ds[i]? =some d:=⟨_,List.getElem?_eq_getElem eZ⟩
   obtain⟨K3,FL⟩:=(MX F2 H2 i s2.ext.ff s2.st.fh).1 d hd
   have ed:ds.drop i=d::ds.drop (i+1):=by
    obtain⟨hi,e⟩:=List.getElem?_eq_some_iff.mp hd
    rw[List.drop_eq_getElem_cons hi,e]
   rw[ed] at w2
   unfold forL at w2
   refine .inr ⟨K3,fun σ' H'=>∃F' ρ',StOk X.K F1 U F' H' σ' ρ'∧WPS X.K Xw F₀ H₀ (forL put τ (ds.drop (i+1)) ρ') D,fun σ' H' ⟨F',ρ',h2,h3⟩=>⟨ds.length - (i+1),by omega,rfl,eZ,F',ρ',h2,h3⟩,fun x H3 y3=>?_⟩
   obtain⟨F3,Ci,q3⟩:=FL x H3 y3
   match Od:put d ρ2,w2 with
   |none,w2=>exact w2.elim
   |some ρ3,w2=>
    refine Lh F1 U F3 H3 σ2 ρ2 ρ3 d x _ (s2.ext' Ci) q3 Od fun σ3 s3=>⟨F1,U,F3,ρ3,s3,?_⟩
    have w2:WPS X.K Xw F₀ H₀ (τ ρ3>>=fun o=>match o with | .nx ρ2=>forL put τ (ds.drop (i+1)) ρ2 | .rt v=>M.ret (.rt v)) D:=w2
    match τ ρ3,w2 with
    |none,w2=>exact w2
    |some (.ok (.nx ρ')),w2=>exact fun σ' F' H' s'=>⟨F',ρ',s',w2⟩
    |some (.ok (.rt d)),w2=>exact fun v F' H' e q=>w2 v F' H' (back _ _ e) q
    |some (.ex n),w2=>exact fun F' H' e=>w2 F' H' (back _ _ e)
  ·have hi:i=ds.length:=by omega
   subst hi
   rw[List.drop_length] at w2
   exact .inl ⟨(MX F2 H2 ds.length s2.ext.ff s2.st.fh).2 (Nat.le_refl _),w2 σ2 F2 H2 (s2.unbase back hU)⟩
end
def gI(f:Int→Int→D):D→D→M D
 | .int i, .int j=>M.ret (f i j)
 |_,_=>M.stuck
def HK(c:Int→Int→Bool)(f:Int→Int→D):D→D→M D
 | .int i, .int j=>if c i j then M.ret (f i j) else M.stuck
 |_,_=>M.stuck
theorem qj{K:W.Frag}{gv:Int→Int→V}{gd:Int→Int→D}(h:∀F i j,Den K F (gd i j) (gv i j)):sZ K (wu gv) (gI gd):=fun Xw F H x y dx dy Q s hx hy w=>by
 unfold gI at w
 split at w
 ·rename_i i j
  exact⟨i,j,hx,hy,WP.now w s (h F i j)⟩
 ·exact w.elim
theorem wc{K:W.Frag}{gv:Int→Int→V}{gd:Int→Int→D}{c:Int→Int→Bool}{C:Int→Int→Prop}(h:∀F i j,Den K F (gd i j) (gv i j))(hc:∀i j,c i j=true→C i j):sZ K (rI C gv) (HK c gd):=fun Xw F H x y dx dy Q s hx hy w=>by
 unfold HK at w
 split at w
 ·rename_i i j
  split at w
  ·rename_i J0
   exact⟨i,j,hx,hy,hc i j J0,WP.now w s (h F i j)⟩
  ·exact w.elim
 ·exact w.elim
def cO:=gI fun i j=> .int (i+j)
def nj:=gI fun i j=> .int (i - j)
def gZ:=HK (fun i j=>decide ((-(2 ^ 64)<i∧i<2 ^ 64)∨(-(2 ^ 64)<j∧j<2 ^ 64))) fun i j=> .int (i*j)
def pb:=HK (fun _ j=>decide (0<j∧j<1073741824)) fun i j=> .int (i / j)
def jP:=HK (fun _ j=>decide (0<j)) fun i j=> .int (i % j)
def Fv:=gI fun i j=> .bl (decide (i<j))
def KC:=gI fun i j=> .bl (decide (j<i))
def CI:=gI fun i j=> .bl (decide (j≤i))
section
variable{X:Cx}{Xw:Nat→Hp→Prop}{a b:Expr}{δa δb:DE}{pos:Pos}
theorem cu(ha:PD X Xw a δa)(hb:PD X Xw b δb):PD X Xw (.BinOp a .Add b pos) (d2 cO δa δb):=qt Ga (qj fun _ _ _=>rfl) ha hb
theorem oq(ha:PD X Xw a δa)(hb:PD X Xw b δb):PD X Xw (.BinOp a .Sub b pos) (d2 nj δa δb):=qt Gg (qj fun _ _ _=>rfl) ha hb
theorem jz(ha:PD X Xw a δa)(hb:PD X Xw b δb):PD X Xw (.BinOp a .Mult b pos) (d2 gZ δa δb):=qt Ge (wc (fun _ _ _=>rfl) fun i j h=>by unfold CMul;exact of_decide_eq_true h) ha hb
theorem rX(ha:PD X Xw a δa)(hb:PD X Xw b δb):PD X Xw (.BinOp a .FloorDiv b pos) (d2 pb δa δb):=qt Dm (wc (fun _ _ _=>rfl) fun i j h=>by unfold Hi;exact of_decide_eq_true h) ha hb
theorem kQ(ha:PD X Xw a δa)(hb:PD X Xw b δb):PD X Xw (.BinOp a .Mod b pos) (d2 jP δa δb):=qt Gd (wc (fun _ _ _=>rfl) fun i j h=>of_decide_eq_true h) ha hb
theorem E3(ha:PD X Xw a δa)(hb:PD X Xw b δb):ku X Xw (.Compare a [.Lt] [b] pos) (b9 (d2 Fv δa δb)):=dP A7 (qj fun _ _ _=>rfl) ha hb
theorem Jm(ha:PD X Xw a δa)(hb:PD X Xw b δb):ku X Xw (.Compare a [.Gt] [b] pos) (b9 (d2 KC δa δb)):=dP Jb (qj fun _ _ _=>rfl) ha hb
def di:D→D→M D
 | .lst ds, .int i=>match atI ds i with | some d=>M.ret d | none=>M.stuck
 |_,_=>M.stuck
def bg:D→D→M D
 | .tup ds, .int i=>match atI ds i with | some d=>M.ret d | none=>M.stuck
 |_,_=>M.stuck
def Ae:D→D→M D
 | .scr ns, .int i=>match atI ns i with | some n=>M.ret (.int n) | none=>M.stuck
 |_,_=>M.stuck
def rh:D→D→M D
 | .str x, .int i=>match atI x.cps.toList i with | some c=>M.ret (.str ⟨#[c]⟩) | none=>M.stuck
 |_,_=>M.stuck
theorem DenL.atI{K:W.Frag}{F:Hp}{ds:List D}{vs:List V}(h:DenL K F ds vs){i:Int}{d:D}(e:L2.atI ds i=some d):∃v,L2.atI vs i=some v∧Den K F d v:=by
 unfold L2.atI at e⊢
 rw[←h.len]
 cases q:AI ds.length i with
 |none=>rw[q] at e;cases e
 |some j=>
  rw[q] at e
  exact h.get e
theorem Dq{K:W.Frag}:sZ K (GN K) di:=fun Xw F H x y dx dy Q s hx hy w=>by
 unfold di at w
 split at w
 ·rename_i ds i
  obtain⟨a,vs,h1,h2,h3,h4⟩:=hx
  split at w
  ·rename_i d e
   obtain⟨v,e1,q⟩:=h3.atI e
   exact⟨a,vs,i,v,h1,hy,SqL.of (s _ _ h2),e1,WP.now w s q⟩
  ·exact w.elim
 ·exact w.elim
theorem Dt{K:W.Frag}:sZ K (Jv K) bg:=fun Xw F H x y dx dy Q s hx hy w=>by
 unfold bg at w
 split at w
 ·rename_i ds i
  obtain⟨a,vs,h1,h2,h3,h4⟩:=hx
  split at w
  ·rename_i d e
   obtain⟨v,e1,q⟩:=h3.atI e
   exact⟨a,vs,i,v,h1,hy,SqT.of (s _ _ h2),e1,WP.now w s q⟩
  ·exact w.elim
 ·exact w.elim
theorem Dr{K:W.Frag}:sZ K (GN K) Ae:=fun Xw F H x y dx dy Q s hx hy w=>by
 unfold Ae at w
 split at w
 ·rename_i ns i
  obtain⟨a,h1,h2,h3⟩:=hx
  split at w
  ·rename_i n e
   refine⟨a,_,i, .int n,h1,hy,Same.seq s h2,?_,WP.now w s rfl⟩
   unfold L2.atI at e⊢
   rw[List.length_map]
   cases q:AI ns.length i with
   |none=>rw[q] at e;cases e
   |some j=>
    rw[q] at e
    have e:ns[j]? =some n:=e
    show (ns.map V.int)[j]? =some (.int n)
    rw[List.getElem?_map,e];rfl
  ·exact w.elim
 ·exact w.elim
theorem Ds{K:W.Frag}:sZ K Ju rh:=fun Xw F H x y dx dy Q s hx hy w=>by
 unfold rh at w
 split at w
 ·rename_i z i
  obtain⟨h1,h2⟩:=hx
  split at w
  ·rename_i c e
   exact⟨z,i,c,h1,hy,by have:=eE;omega,e,WP.now w s ⟨rfl,by show 1≤lim;decide⟩⟩
  ·exact w.elim
 ·exact w.elim
theorem fb(ha:PD X Xw a δa)(hb:PD X Xw b δb)(hs:iI b:=by intro _ _;rfl):PD X Xw (.Subscript a b pos) (d2 di δa δb):=xK xt Dq ha hb hs
theorem Gk(ha:PD X Xw a δa)(hb:PD X Xw b δb)(hs:iI b:=by intro _ _;rfl):PD X Xw (.Subscript a b pos) (d2 Ae δa δb):=xK xt Dr ha hb hs
theorem bM(ha:PD X Xw a δa)(hb:PD X Xw b δb)(hs:iI b:=by intro _ _;rfl):PD X Xw (.Subscript a b pos) (d2 bg δa δb):=xK FX Dt ha hb hs
theorem Bd(ha:PD X Xw a δa)(hb:PD X Xw b δb)(hs:iI b:=by intro _ _;rfl):PD X Xw (.Subscript a b pos) (d2 rh δa δb):=xK FW Ds ha hb hs
theorem iF(x y:Str):(x++y).length=x.length+y.length:=by
 show (x.cps++y.cps).size=_
 simp[Str.length]
end
end L3
namespace L3
open PySem PySem.Spec L2 SeqAt
open PyProof.Rows hiding St
def q_(f:D→D→Option Bool):List D→List D→Option Bool
 |[],[]=>some true
 |x::xs,y::ys=>match f x y,q_ f xs ys with
  |some b,some r=>some (b&&r)
  |_,_=>none
 |[],_::_=>some false
 |_::_,[]=>some false
def vC:D→D→Option Bool
 | .non, .non=>some true
 | .bl a, .bl b=>some (a==b)
 | .bl a, .int j=>some ((if a then 1 else 0)==j)
 | .int i, .bl b=>some (i==(if b then 1 else 0))
 | .int i, .int j=>some (i==j)
 | .str x, .str y=>some (x==y)
 | .non, .bl _=>some false
 | .non, .int _=>some false
 | .non, .str _=>some false
 | .non, .lst _=>some false
 | .non, .tup _=>some false
 | .bl _, .non=>some false
 | .bl _, .str _=>some false
 | .bl _, .lst _=>some false
 | .bl _, .tup _=>some false
 | .int _, .non=>some false
 | .int _, .str _=>some false
 | .int _, .lst _=>some false
 | .int _, .tup _=>some false
 | .str _, .non=>some false
 | .str _, .bl _=>some false
 | .str _, .int _=>some false
 | .str _, .lst _=>some false
 | .str _, .tup _=>some false
 | .lst _, .non=>some false
 | .lst _, .bl _=>some false
 | .lst _, .int _=>some false
 | .lst _, .str _=>some false
 | .lst _, .tup _=>some false
 | .tup _, .non=>some false
 | .tup _, .bl _=>some false
 | .tup _, .int _=>some false
 | .tup _, .str _=>some false
 | .tup _, .lst _=>some false
 |_,_=>none
def lA:Nat→D→D→Option Bool
 |n+1, .tup xs, .tup ys=>q_ (lA n) xs ys
 |n+1, .lst xs, .lst ys=>q_ (lA n) xs ys
 |n+1, .scr xs, .lst ys=>q_ (lA n) (xs.map D.int) ys
 |_,x,y=>vC x y
structure EqAll (A:Around) (s:Shared) (u v:Value) (b:Bool):Prop where
 rc:RcAt A s u v b
 ne:RcNeAt A s u v (!b)
 eq:EqAt A s u v b
section
variable{X:Cx}{pins:List (Addr×Obj)}{σ:St}{F H:Hp}{s:Shared}{A:Around}
theorem eF(I:Inv X pins σ H s)(hs:Same F H){ds:List D}{v:V}{u:Value}(h:Den X.K F (.tup ds) v)(r:RelV v u):∃a vs aB,u= .ref a∧v= .ref a∧F a=some (.tup vs)∧DenL X.K F ds vs∧Vals vs aB∧s.heap.IsTuple a aB.toArray:=by
 obtain⟨a,vs,rfl,h2,h3,h4⟩:=h
 obtain⟨aB,r1,p1,_⟩:=I.tuple (SqT.of (hs _ _ h2))
 exact⟨a,vs,aB,r,rfl,h2,h3,r1,p1⟩
theorem d7(I:Inv X pins σ H s)(hs:Same F H){ds:List D}{v:V}{u:Value}(h:Den X.K F (.lst ds) v)(r:RelV v u):∃a vs aB,u= .ref a∧v= .ref a∧F a=some (.lst vs)∧DenL X.K F ds vs∧Vals vs aB∧s.heap.IsList a aB.toArray:=by
 obtain⟨a,vs,rfl,h2,h3,h4⟩:=h
 obtain⟨aB,r1,p1,_⟩:=I.list (SqL.of (hs _ _ h2))
 exact⟨a,vs,aB,r,rfl,h2,h3,r1,p1.isList⟩
theorem GU(I:Inv X pins σ H s)(hs:Same F H){ns:List Int}{v:V}{u:Value}(h:Den X.K F (.scr ns) v)(r:RelV v u):∃a aB,u= .ref a∧v= .ref a∧SqL X.K F a (ns.map V.int)∧Vals (ns.map V.int) aB∧s.heap.IsList a aB.toArray:=by
 obtain⟨a,rfl,h2,h3⟩:=h
 obtain⟨aB,r1,p1,_⟩:=I.list (Same.seq hs h2)
 exact⟨a,aB,r,rfl,h2,r1,p1.isList⟩
theorem tK(I:Inv X pins σ H s)(hs:Same F H)(hu:A.units<cLine){x y:D}{v w:V}{u t:Value}{b:Bool}(hx:Den X.K F x v)(hy:Den X.K F y w)(rx:RelV v u)(ry:RelV w t)(e:vC x y=some b):EqAll A s u t b:=by
 cases x with
 |non=>
  cases y with
  |non=>
   cases e
   cases (show _=_ from hx)
   cases rx
   cases (show _=_ from hy)
   cases ry
   exact⟨RcAt.none_none,RcNeAt.none_none,EqAt.same _⟩
  |bl d=>
   cases e
   cases (show _=_ from hx)
   cases rx
   cases (show _=_ from hy)
   cases ry
   exact⟨RcAt.none_bool _,RcNeAt.none_bool _,EqAt.none_bool _⟩
  |int d=>
   cases e
   cases (show _=_ from hx)
   cases rx
   cases (show _=_ from hy)
   obtain⟨t2,rfl⟩:=ry
   exact⟨RcAt.none_int _ _,RcNeAt.none_int _ _,EqAt.none_int _ _⟩
  |str d=>
   cases e
   cases (show _=_ from hx)
   cases rx
   cases (show _=_ from hy.1)
   obtain⟨t2,rfl⟩:=ry
   exact⟨RcAt.none_str _ _,RcNeAt.none_str _ _,EqAt.none_str _ _⟩
  |raw d=>cases e
  |dct _ _=>cases e
  |dci _ _=>cases e
  |exc d=>cases e
  |scr d=>cases e
  |tup d=>
   cases e
   cases (show _=_ from hx)
   cases rx
   obtain⟨a2,_,_,rfl,_,_,_,_,p2⟩:=eF I hs hy ry
   exact⟨RcAt.none_tuple p2 hu,RcNeAt.none_tuple p2 hu,EqAt.none_tuple p2 hu⟩
  |lst d=>
   cases e
   cases (show _=_ from hx)
   cases rx
   obtain⟨a2,_,_,rfl,_,_,_,_,p2⟩:=d7 I hs hy ry
   exact⟨RcAt.none_list p2 hu,RcNeAt.none_list p2 hu,EqAt.none_list p2 hu⟩
 |bl c=>
  cases y with
  |non=>
   cases e
   cases (show _=_ from hx)
   cases rx
   cases (show _=_ from hy)
   cases ry
   exact⟨RcAt.bool_none _,RcNeAt.bool_none _,EqAt.bool_none _⟩
  |bl d=>
   cases e
   cases (show _=_ from hx)
   cases rx
   cases (show _=_ from hy)
   cases ry
   exact⟨RcAt.bool_bool _ _,RcNeAt.bool_bool _ _,EqAt.bool_bool _ _⟩
  |int d=>
   cases e
   cases (show _=_ from hx)
   cases rx
   cases (show _=_ from hy)
   obtain⟨t2,rfl⟩:=ry
   exact⟨RcAt.bool_int _ _ _,RcNeAt.bool_int _ _ _,EqAt.bool_int _ _ _⟩
  |str d=>
   cases e
   cases (show _=_ from hx)
   cases rx
   cases (show _=_ from hy.1)
   obtain⟨t2,rfl⟩:=ry
   exact⟨RcAt.bool_str _ _ _,RcNeAt.bool_str _ _ _,EqAt.bool_str _ _ _⟩
  |raw d=>cases e
  |dct _ _=>cases e
  |dci _ _=>cases e
  |exc d=>cases e
  |scr d=>cases e
  |tup d=>
   cases e
   cases (show _=_ from hx)
   cases rx
   obtain⟨a2,_,_,rfl,_,_,_,_,p2⟩:=eF I hs hy ry
   exact⟨RcAt.bool_tuple _ p2 hu,RcNeAt.bool_tuple _ p2 hu,EqAt.bool_tuple _ p2 hu⟩
  |lst d=>
   cases e
   cases (show _=_ from hx)
   cases rx
   obtain⟨a2,_,_,rfl,_,_,_,_,p2⟩:=d7 I hs hy ry
   exact⟨RcAt.bool_list _ p2 hu,RcNeAt.bool_list _ p2 hu,EqAt.bool_list _ p2 hu⟩
 |int c=>
  cases y with
  |non=>
   cases e
   cases (show _=_ from hx)
   obtain⟨t1,rfl⟩:=rx
   cases (show _=_ from hy)
   cases ry
   exact⟨RcAt.int_none _ _,RcNeAt.int_none _ _,EqAt.int_none _ _⟩
  |bl d=>
   cases e
   cases (show _=_ from hx)
   obtain⟨t1,rfl⟩:=rx
   cases (show _=_ from hy)
   cases ry
   exact⟨RcAt.int_bool _ _ _,RcNeAt.int_bool _ _ _,EqAt.int_bool _ _ _⟩
  |int d=>
   cases e
   cases (show _=_ from hx)
   obtain⟨t1,rfl⟩:=rx
   cases (show _=_ from hy)
   obtain⟨t2,rfl⟩:=ry
   exact⟨RcAt.int_int _ _ _ _,RcNeAt.int_int _ _ _ _,EqAt.int_int _ _ _ _⟩
  |str d=>
   cases e
   cases (show _=_ from hx)
   obtain⟨t1,rfl⟩:=rx
   cases (show _=_ from hy.1)
   obtain⟨t2,rfl⟩:=ry
   exact⟨RcAt.int_str _ _ _ _,RcNeAt.int_str _ _ _ _,EqAt.int_str _ _ _ _⟩
  |raw d=>cases e
  |dct _ _=>cases e
  |dci _ _=>cases e
  |exc d=>cases e
  |scr d=>cases e
  |tup d=>
   cases e
   cases (show _=_ from hx)
   obtain⟨t1,rfl⟩:=rx
   obtain⟨a2,_,_,rfl,_,_,_,_,p2⟩:=eF I hs hy ry
   exact⟨RcAt.int_tuple _ _ p2 hu,RcNeAt.int_tuple _ _ p2 hu,EqAt.int_tuple _ _ p2 hu⟩
  |lst d=>
   cases e
   cases (show _=_ from hx)
   obtain⟨t1,rfl⟩:=rx
   obtain⟨a2,_,_,rfl,_,_,_,_,p2⟩:=d7 I hs hy ry
   exact⟨RcAt.int_list _ _ p2 hu,RcNeAt.int_list _ _ p2 hu,EqAt.int_list _ _ p2 hu⟩
 |str c=>
  cases y with
  |non=>
   cases e
   cases (show _=_ from hx.1)
   obtain⟨t1,rfl⟩:=rx
   cases (show _=_ from hy)
   cases ry
   exact⟨RcAt.str_none _ _,RcNeAt.str_none _ _,EqAt.str_none _ _⟩
  |bl d=>
   cases e
   cases (show _=_ from hx.1)
   obtain⟨t1,rfl⟩:=rx
   cases (show _=_ from hy)
   cases ry
   exact⟨RcAt.str_bool _ _ _,RcNeAt.str_bool _ _ _,EqAt.str_bool _ _ _⟩
  |int d=>
   cases e
   cases (show _=_ from hx.1)
   obtain⟨t1,rfl⟩:=rx
   cases (show _=_ from hy)
   obtain⟨t2,rfl⟩:=ry
   exact⟨RcAt.str_int _ _ _ _,RcNeAt.str_int _ _ _ _,EqAt.str_int _ _ _ _⟩
  |str d=>
   cases e
   cases (show _=_ from hx.1)
   obtain⟨t1,rfl⟩:=rx
   cases (show _=_ from hy.1)
   obtain⟨t2,rfl⟩:=ry
   exact⟨RcAt.str_str _ _ _ _,RcNeAt.str_str _ _ _ _,EqAt.str_str _ _ _ _⟩
  |raw d=>cases e
  |dct _ _=>cases e
  |dci _ _=>cases e
  |exc d=>cases e
  |scr d=>cases e
  |tup d=>
   cases e
   cases (show _=_ from hx.1)
   obtain⟨t1,rfl⟩:=rx
   obtain⟨a2,_,_,rfl,_,_,_,_,p2⟩:=eF I hs hy ry
   exact⟨RcAt.str_tuple _ _ p2 hu,RcNeAt.str_tuple _ _ p2 hu,EqAt.str_tuple _ _ p2 hu⟩
  |lst d=>
   cases e
   cases (show _=_ from hx.1)
   obtain⟨t1,rfl⟩:=rx
   obtain⟨a2,_,_,rfl,_,_,_,_,p2⟩:=d7 I hs hy ry
   exact⟨RcAt.str_list _ _ p2 hu,RcNeAt.str_list _ _ p2 hu,EqAt.str_list _ _ p2 hu⟩
 |raw _=>cases y<;>cases e
 |dct _ _=>cases y<;>cases e
 |dci _ _=>cases y<;>cases e
 |exc _=>cases y<;>cases e
 |scr c=>cases y<;>cases e
 |tup c=>
  cases y with
  |non=>
   cases e
   obtain⟨a1,_,_,rfl,_,_,_,_,p1⟩:=eF I hs hx rx
   cases (show _=_ from hy)
   cases ry
   exact⟨RcAt.tuple_none p1 hu,RcNeAt.tuple_none p1 hu,EqAt.tuple_none p1 hu⟩
  |bl d=>
   cases e
   obtain⟨a1,_,_,rfl,_,_,_,_,p1⟩:=eF I hs hx rx
   cases (show _=_ from hy)
   cases ry
   exact⟨RcAt.tuple_bool _ p1 hu,RcNeAt.tuple_bool _ p1 hu,EqAt.tuple_bool _ p1 hu⟩
  |int d=>
   cases e
   obtain⟨a1,_,_,rfl,_,_,_,_,p1⟩:=eF I hs hx rx
   cases (show _=_ from hy)
   obtain⟨t2,rfl⟩:=ry
   exact⟨RcAt.tuple_int _ _ p1 hu,RcNeAt.tuple_int _ _ p1 hu,EqAt.tuple_int _ _ p1 hu⟩
  |str d=>
   cases e
   obtain⟨a1,_,_,rfl,_,_,_,_,p1⟩:=eF I hs hx rx
   cases (show _=_ from hy.1)
   obtain⟨t2,rfl⟩:=ry
   exact⟨RcAt.tuple_str _ _ p1 hu,RcNeAt.tuple_str _ _ p1 hu,EqAt.tuple_str _ _ p1 hu⟩
  |raw d=>cases e
  |dct _ _=>cases e
  |dci _ _=>cases e
  |exc d=>cases e
  |scr d=>cases e
  |tup d=>cases e
  |lst d=>
   cases e
   obtain⟨a1,_,_,rfl,_,_,_,_,p1⟩:=eF I hs hx rx
   obtain⟨a2,_,_,rfl,_,_,_,_,p2⟩:=d7 I hs hy ry
   exact⟨RcAt.tuple_list p1 p2 hu,RcNeAt.tuple_list p1 p2 hu,EqAt.tuple_list p1 p2 hu⟩
 |lst c=>
  cases y with
  |non=>
   cases e
   obtain⟨a1,_,_,rfl,_,_,_,_,p1⟩:=d7 I hs hx rx
   cases (show _=_ from hy)
   cases ry
   exact⟨RcAt.list_none p1 hu,RcNeAt.list_none p1 hu,EqAt.list_none p1 hu⟩
  |bl d=>
   cases e
   obtain⟨a1,_,_,rfl,_,_,_,_,p1⟩:=d7 I hs hx rx
   cases (show _=_ from hy)
   cases ry
   exact⟨RcAt.list_bool _ p1 hu,RcNeAt.list_bool _ p1 hu,EqAt.list_bool _ p1 hu⟩
  |int d=>
   cases e
   obtain⟨a1,_,_,rfl,_,_,_,_,p1⟩:=d7 I hs hx rx
   cases (show _=_ from hy)
   obtain⟨t2,rfl⟩:=ry
   exact⟨RcAt.list_int _ _ p1 hu,RcNeAt.list_int _ _ p1 hu,EqAt.list_int _ _ p1 hu⟩
  |str d=>
   cases e
   obtain⟨a1,_,_,rfl,_,_,_,_,p1⟩:=d7 I hs hx rx
   cases (show _=_ from hy.1)
   obtain⟨t2,rfl⟩:=ry
   exact⟨RcAt.list_str _ _ p1 hu,RcNeAt.list_str _ _ p1 hu,EqAt.list_str _ _ p1 hu⟩
  |raw d=>cases e
  |dct _ _=>cases e
  |dci _ _=>cases e
  |exc d=>cases e
  |scr d=>cases e
  |tup d=>
   cases e
   obtain⟨a1,_,_,rfl,_,_,_,_,p1⟩:=d7 I hs hx rx
   obtain⟨a2,_,_,rfl,_,_,_,_,p2⟩:=eF I hs hy ry
   exact⟨RcAt.list_tuple p1 p2 hu,RcNeAt.list_tuple p1 p2 hu,EqAt.list_tuple p1 p2 hu⟩
  |lst d=>cases e
end
def ev(f:D→D→Option Bool)(xs ys:List D)(j:Nat):Bool:=match xs[j]?,ys[j]? with
 |some x,some y=>(f x y).getD false
 |_,_=>false
theorem tJ{f:D→D→Option Bool}:∀{xs ys:List D}{b:Bool},q_ f xs ys=some b→∀(j:Nat) (x y:D),xs[j]? =some x→ys[j]? =some y→∃c,f x y=some c
 |[],_,_,_,_,_,_,h,_=>by simp at h
 |_::_,[],_,_,_,_,_,_,h=>by simp at h
 |x::xs,y::ys,b,e,j,x',y',hx,hy=>by
  unfold q_ at e
  split at e
  ·rename_i b1 r1 e1 e2
   cases j with
   |zero=>simp at hx hy;subst hx hy;exact⟨_,e1⟩
   |succ j=>exact tJ e2 j x' y' (by simpa using hx) (by simpa using hy)
  ·cases e
theorem rb{f:D→D→Option Bool}:∀{xs ys:List D}{b:Bool},q_ f xs ys=some b→b=((List.range (min xs.length ys.length)).all (ev f xs ys)&&xs.length==ys.length)
 |[],[],_,e=>by cases e;rfl
 |[],_::_,_,e=>by cases e;simp
 |_::_,[],_,e=>by cases e;simp
 |x::xs,y::ys,b,e=>by
  unfold q_ at e
  split at e
  ·rename_i b1 r1 e1 e2
   cases e
   have h:=rb e2
   rw[List.length_cons,List.length_cons,Nat.succ_min_succ,List.range_succ_eq_map,List.all_cons,List.all_map]
   have e0:ev f (x::xs) (y::ys) 0=b1:=by unfold ev;simp[e1]
   have e3:(ev f (x::xs) (y::ys)∘Nat.succ)=ev f xs ys:=by funext j;simp[ev,Function.comp]
   have e4:(xs.length+1==ys.length+1)=(xs.length==ys.length):=by simp
   rw[e0,e3,e4,h,Bool.and_assoc]
  ·cases e
section
variable{X:Cx}{pins:List (Addr×Obj)}{σ:St}{F H:Hp}{s:Shared}
theorem jM{f:D→D→Option Bool}(h:∀x y v b,Den X.K F x v→Den X.K F y v→f x y=some b→b=true):∀{xs ys:List D}{vs:List V}{b:Bool},DenL X.K F xs vs→DenL X.K F ys vs→q_ f xs ys=some b→b=true
 |[],[],_,_,_,_,e=>by cases e;rfl
 |[],_::_,_,_,h1,h2,_=>by
  cases (show _=_ from h1)
  obtain⟨v,r,z,_⟩:=h2
  cases z
 |_::_,[],_,_,h1,h2,_=>by
  cases (show _=_ from h2)
  obtain⟨v,r,z,_⟩:=h1
  cases z
 |x::xs,y::ys,_,b,⟨v,r,e1,q1,q2⟩,⟨v',r',e2,q3,q4⟩,e=>by
  subst e1
  cases e2
  unfold q_ at e
  split at e
  ·rename_i b1 r1 f1 f2
   cases e
   rw[h x y v b1 q1 q3 f1,jM h q2 q4 f2]
   rfl
  ·cases e
theorem pT{x y:D}{v:V}{b:Bool}(hx:Den X.K F x v)(hy:Den X.K F y v)(e:vC x y=some b):b=true:=by
 cases x<;>cases y<;>first
  |(cases e;done)
  |(cases e;cases (show _=_ from hx);cases (show _=_ from hy);first | rfl | simp)
  |(cases e;cases (show _=_ from hx.1);cases (show _=_ from hy.1);simp)
  |(cases e;cases (show _=_ from hx);cases (show _=_ from hy.1))
  |(cases e;cases (show _=_ from hx.1);cases (show _=_ from hy))
  |(cases e;obtain⟨_,_,z,_⟩:=hx;subst z;cases (show _=_ from hy);done)
  |(cases e;obtain⟨_,_,z,_⟩:=hx;subst z;cases (show _=_ from hy.1);done)
  |(cases e;obtain⟨_,z,_⟩:=hx;subst z;cases (show _=_ from hy);done)
  |(cases e;obtain⟨_,z,_⟩:=hx;subst z;cases (show _=_ from hy.1);done)
  |(cases e;obtain⟨_,_,z,_⟩:=hy;subst z;cases (show _=_ from hx);done)
  |(cases e;obtain⟨_,_,z,_⟩:=hy;subst z;cases (show _=_ from hx.1);done)
  |(cases e;obtain⟨_,z,_⟩:=hy;subst z;cases (show _=_ from hx);done)
  |(cases e;obtain⟨_,z,_⟩:=hy;subst z;cases (show _=_ from hx.1);done)
  |(cases e;obtain⟨_,_,z,h2,_⟩:=hx;obtain⟨_,_,z',Mq,_⟩:=hy;subst z;cases z';rw[h2] at Mq;cases Mq;done)
  |(cases e;cases (show _=_ from hx);cases (show _=_ from hy);done)
  |(cases e;cases (show _=_ from hx.1);cases (show _=_ from hy.1);done)
theorem jL(I:Inv X pins σ H s)(hs:Same F H):∀(n:Nat) (x y:D) (v:V) (b:Bool),Den X.K F x v→Den X.K F y v→lA n x y=some b→b=true
 |0,x,y,v,b,hx,hy,e=>pT hx hy (by unfold lA at e;exact e)
 |n+1,x,y,v,b,hx,hy,e=>by
  unfold lA at e
  split at e
  ·rename_i xs ys _
   obtain⟨a,vs,rfl,h2,h3,_⟩:=hx
   obtain⟨a',vs',z,k2,k3,_⟩:=hy
   cases z
   rw[h2] at k2
   cases k2
   exact jM (jL I hs _) h3 k3 (by simpa using e)
  ·rename_i xs ys _
   obtain⟨a,vs,rfl,h2,h3,_⟩:=hx
   obtain⟨a',vs',z,k2,k3,_⟩:=hy
   cases z
   rw[h2] at k2
   cases k2
   exact jM (jL I hs _) h3 k3 (by simpa using e)
  ·rename_i xs ys _
   obtain⟨a,rfl,h2,_⟩:=hx
   obtain⟨a',vs',z,k2,k3,_⟩:=hy
   cases z
   have hv:=I.list_inj (Same.seq hs h2) (SqL.of (hs _ _ k2))
   rw[←hv] at k3
   exact jM (jL I hs _) (DenL.ints xs) k3 (by simpa using e)
  ·exact pT hx hy e
theorem Vals.at{vs:List V}{aB:List Value}(r:Vals vs aB){j:Nat}(h:j<aB.toArray.size):∃v,vs[j]? =some v∧RelV v aB.toArray[j]:=by
 have hl:=r.length
 have hj:j<vs.length:=by rw[List.size_toArray] at h;omega
 obtain⟨u,e1,e2⟩:=r.get (List.getElem?_eq_getElem hj)
 refine⟨vs[j],List.getElem?_eq_getElem hj,?_⟩
 have:aB.toArray[j]=u:=by
  have:=(List.getElem?_eq_some_iff.mp e1).2
  simpa using this
 rw[this]
 exact e2
theorem mO{f:D→D→Option Bool}{A:Around}{xs ys:List D}{vs ws:List V}{aB e8:List Value}{b:Bool}(h1:DenL X.K F xs vs)(h2:DenL X.K F ys ws)(r1:Vals vs aB)(r2:Vals ws e8)(e:q_ f xs ys=some b)
 (ih:∀x y v w u t c,Den X.K F x v→Den X.K F y w→RelV v u→RelV w t→f x y=some c→EqAt A s u t c):
 ∀j (k1:j<aB.toArray.size) (k2:j<e8.toArray.size),EqAt A s aB.toArray[j] e8.toArray[j] (ev f xs ys j):=fun j k1 k2=>by
 obtain⟨v,e1,q1⟩:=Vals.at r1 k1
 obtain⟨w,e2,q2⟩:=Vals.at r2 k2
 obtain⟨x,e3,q3⟩:=h1.at e1
 obtain⟨y,e4,q4⟩:=h2.at e2
 obtain⟨c,hc⟩:=tJ e j x y e3 e4
 have:ev f xs ys j=c:=by unfold ev;rw[e3,e4];simp[hc]
 rw[this]
 exact ih x y v w _ _ c q3 q4 q1 q2 hc
theorem qb{f:D→D→Option Bool}{A:Around}(hu:A.units<cLine){xs ys:List D}{vs ws:List V}{aB e8:List Value}{b:Bool}{a a':Addr}(h1:DenL X.K F xs vs)(h2:DenL X.K F ys ws)(r1:Vals vs aB)(r2:Vals ws e8)
 (p1:s.heap.IsList a aB.toArray)(p2:s.heap.IsList a' e8.toArray)(e:q_ f xs ys=some b)(hr:a=a'→b=true)
 (ih:∀x y v w u t c,Den X.K F x v→Den X.K F y w→RelV v u→RelV w t→f x y=some c→EqAt A.in1 s u t c):EqAll A s (.ref a) (.ref a') b:=by
 have l1:=h1.len
 have l2:=h2.len
 have l3:=r1.length
 have l4:=r2.length
 have hv:=rb e
 have core:RcAt A s (.ref a) (.ref a') b∧RcNeAt A s (.ref a) (.ref a') (!b):=by
  by_cases hl:xs.length=ys.length
  ·have hsz:aB.toArray.size=e8.toArray.size:=by rw[List.size_toArray,List.size_toArray];omega
   have hb:b=(List.range aB.toArray.size).all (ev f xs ys):=by
    rw[hv,hl,Nat.min_self,beq_self_eq_true,Bool.and_true]
    congr 2
    rw[List.size_toArray];omega
   rw[hb]
   exact⟨RcAt.lists p1 p2 hsz hu (mO h1 h2 r1 r2 e ih),RcNeAt.lists p1 p2 hsz hu (mO h1 h2 r1 r2 e ih)⟩
  ·have hb:b=false:=by rw[hv,show (xs.length==ys.length)=false from by simpa using hl,Bool.and_false]
   have hsz:(aB.toArray.size !=e8.toArray.size)=true:=by
    rw[List.size_toArray,List.size_toArray]
    simp
    omega
   rw[hb]
   exact⟨RcAt.lists_lengths p1 p2 hsz hu,RcNeAt.lists_lengths p1 p2 hsz hu⟩
 refine⟨core.1,core.2,?_⟩
 by_cases hq:a=a'
 ·rw[hr hq]
  subst hq
  exact EqAt.same _
 ·exact EqAt.of_refs hq core.1
theorem wI{f:D→D→Option Bool}{A:Around}(hu:A.units<cLine){xs ys:List D}{vs ws:List V}{aB e8:List Value}{b:Bool}{a a':Addr}(h1:DenL X.K F xs vs)(h2:DenL X.K F ys ws)(r1:Vals vs aB)(r2:Vals ws e8)
 (p1:s.heap.IsTuple a aB.toArray)(p2:s.heap.IsTuple a' e8.toArray)(e:q_ f xs ys=some b)(hr:a=a'→b=true)
 (ih:∀x y v w u t c,Den X.K F x v→Den X.K F y w→RelV v u→RelV w t→f x y=some c→EqAt A.in1 s u t c):EqAll A s (.ref a) (.ref a') b:=by
 have l1:=h1.len
 have l2:=h2.len
 have l3:=r1.length
 have l4:=r2.length
 have hb:b=((List.range (min aB.toArray.size e8.toArray.size)).all (ev f xs ys)&&aB.toArray.size==e8.toArray.size):=by
  rw[rb e,List.size_toArray,List.size_toArray,←l3,←l4,←l1,←l2]
 have core:RcAt A s (.ref a) (.ref a') b∧RcNeAt A s (.ref a) (.ref a') (!b):=by
  rw[hb]
  exact⟨RcAt.tuples p1 p2 hu (mO h1 h2 r1 r2 e ih),RcNeAt.tuples p1 p2 hu (mO h1 h2 r1 r2 e ih)⟩
 refine⟨core.1,core.2,?_⟩
 by_cases hq:a=a'
 ·rw[hr hq]
  subst hq
  exact EqAt.same _
 ·exact EqAt.of_refs hq core.1
theorem rf(I:Inv X pins σ H s)(hs:Same F H):∀(n:Nat) (A:Around) (x y:D) (v w:V) (u t:Value) (b:Bool),A.units+n<cLine→Den X.K F x v→Den X.K F y w→RelV v u→RelV w t→lA n x y=some b→EqAll A s u t b
 |0,A,x,y,v,w,u,t,b,hu,hx,hy,rx,ry,e=>tK I hs (by omega) hx hy rx ry (by unfold lA at e;exact e)
 |n+1,A,x,y,v,w,u,t,b,hu,hx,hy,rx,ry,e=>by
  have Kc:A.units<cLine:=by omega
  have Oo:A.in1.units+n<cLine:=by show A.units+1+n<cLine;omega
  have hrefl:=jL (F:=F) I hs (n+1) x y
  have ih:∀x y v w u t c,Den X.K F x v→Den X.K F y w→RelV v u→RelV w t→lA n x y=some c→EqAt A.in1 s u t c:=fun x y v w u t c q1 q2 q3 q4 q5=>(rf I hs n A.in1 x y v w u t c Oo q1 q2 q3 q4 q5).eq
  have e0:=e
  unfold lA at e
  split at e
  ·rename_i xs ys heq
   cases heq
   obtain⟨a,vs,aB,rfl,HH,h2,h3,r1,p1⟩:=eF I hs hx rx
   obtain⟨a',vs',its',rfl,HI,k2,k3,Jo,Jd⟩:=eF I hs hy ry
   exact wI Kc h3 k3 r1 Jo p1 Jd e (fun z=>by subst z;exact hrefl v b hx (by rw[HH,←HI];exact hy) e0) ih
  ·rename_i xs ys heq
   cases heq
   obtain⟨a,vs,aB,rfl,HH,h2,h3,r1,p1⟩:=d7 I hs hx rx
   obtain⟨a',vs',its',rfl,HI,k2,k3,Jo,Jd⟩:=d7 I hs hy ry
   exact qb Kc h3 k3 r1 Jo p1 Jd e (fun z=>by subst z;exact hrefl v b hx (by rw[HH,←HI];exact hy) e0) ih
  ·rename_i xs ys heq
   cases heq
   obtain⟨a,aB,rfl,HH,h2,r1,p1⟩:=GU I hs hx rx
   obtain⟨a',vs',its',rfl,HI,k2,k3,Jo,Jd⟩:=d7 I hs hy ry
   exact qb Kc (DenL.ints _) k3 r1 Jo p1 Jd e (fun z=>by subst z;exact hrefl v b hx (by rw[HH,←HI];exact hy) e0) ih
  ·exact tK I hs Kc hx hy rx ry e
end
def mz(x y:D):M D:=match lA 6 x y with | some b=>M.ret (.bl b) | none=>M.stuck
def pU(x y:D):M D:=match lA 6 x y with | some b=>M.ret (.bl (!b)) | none=>M.stuck
def Jq(K:W.Frag):R2:=fun x y H Q=>∃F dx dy b,Same F H∧Den K F dx x∧Den K F dy y∧lA 6 dx dy=some b∧Q (.bl b) H
def Jw(K:W.Frag):R2:=fun x y H Q=>∃F dx dy b,Same F H∧Den K F dx x∧Den K F dy y∧lA 6 dx dy=some b∧Q (.bl (!b)) H
section
variable{X:Cx}{Xw:Nat→Hp→Prop}{a b:Expr}{δa δb:DE}{pos:Pos}
theorem A6(hu:X.A.units+64<cLine):OpR X (compareOp .Eq) (Jq X.K):=by
 intro pins s σ H x y v u Q I rx ry h
 obtain⟨F,dx,dy,b,hs,hx,hy,e,q⟩:=h
 exact(rf I hs 6 X.A dx dy x y v u b (by omega) hx hy rx ry e).rc _ _ _ _ ⟨.bl b,H,I,rfl,q⟩
theorem Gf(hu:X.A.units+64<cLine):OpR X (compareOp .NotEq) (Jw X.K):=by
 intro pins s σ H x y v u Q I rx ry h
 obtain⟨F,dx,dy,b,hs,hx,hy,e,q⟩:=h
 exact(rf I hs 6 X.A dx dy x y v u b (by omega) hx hy rx ry e).ne _ _ _ _ ⟨.bl (!b),H,I,rfl,q⟩
theorem A8{K:W.Frag}:sZ K (Jq K) mz:=fun Xw F H x y dx dy Q s hx hy w=>by
 unfold mz at w
 split at w
 ·rename_i b e
  exact⟨F,dx,dy,b,s,hx,hy,e,WP.now w s rfl⟩
 ·exact w.elim
theorem Gh{K:W.Frag}:sZ K (Jw K) pU:=fun Xw F H x y dx dy Q s hx hy w=>by
 unfold pU at w
 split at w
 ·rename_i b e
  exact⟨F,dx,dy,b,s,hx,hy,e,WP.now w s rfl⟩
 ·exact w.elim
theorem xO(hu:X.A.units+64<cLine)(ha:PD X Xw a δa)(hb:PD X Xw b δb):ku X Xw (.Compare a [.Eq] [b] pos) (b9 (d2 mz δa δb)):=dP (A6 hu) A8 ha hb
theorem me(hu:X.A.units+64<cLine)(ha:PD X Xw a δa)(hb:PD X Xw b δb):ku X Xw (.Compare a [.NotEq] [b] pos) (b9 (d2 pU δa δb)):=dP (Gf hu) Gh ha hb
theorem qr(hu:X.A.units+64<cLine)(ha:PD X Xw a δa)(hb:PD X Xw b δb):PD X Xw (.Compare a [.Eq] [b] pos) (d2 mz δa δb):=Bc (A6 hu) A8 ha hb
end
def PDW(X:Cx)(Xw:Nat→Hp→Prop)(e:Expr)(δ:DT):Prop:=PW X e (LW X.K Xw δ)
theorem PW.weak{X:Cx}{e:Expr}{t t':TT}(h:PW X e t)(k:∀σ H Q,t' σ H Q→t σ H Q):PW X e t':=fun wh pins s σ H Q I w=>h wh pins s σ H Q I (k σ H Q w)
section
variable{X:Cx}{Xw:Nat→Hp→Prop}{a b c:Expr}{rest:List Expr}{δa δb δc:DE}{τa τb:DT}{pos:Pos}
theorem Bo(ha:ku X Xw a τa):PDW X Xw (.BoolOp .And [a] pos) τa:=D3 ha
theorem eK(ha:ku X Xw a τa):PDW X Xw (.BoolOp .Or [a] pos) τa:=GK ha
theorem DI(ha:ku X Xw a τa)(hb:PDW X Xw (.BoolOp .And (b::rest) pos) τb):PDW X Xw (.BoolOp .And (a::b::rest) pos) (CB τa τb):=PW.weak (GJ ha hb) fun σ H Q ⟨F,ρ,s,w⟩=>by
 refine⟨F,ρ,s,WPB.mono (WPB.bindB w) fun v H1 ⟨F1,e1,w1⟩=>?_⟩
 cases v with
 |true=>exact⟨F1,ρ,s.ext e1,w1⟩
 |false=>exact w1 _ _ (Ext.refl e1.fh)
theorem gz(ha:ku X Xw a τa)(hb:PDW X Xw (.BoolOp .Or (b::rest) pos) τb):PDW X Xw (.BoolOp .Or (a::b::rest) pos) (kr τa τb):=PW.weak (Jn ha hb) fun σ H Q ⟨F,ρ,s,w⟩=>by
 refine⟨F,ρ,s,WPB.mono (WPB.bindB w) fun v H1 ⟨F1,e1,w1⟩=>?_⟩
 cases v with
 |false=>exact⟨F1,ρ,s.ext e1,w1⟩
 |true=>exact w1 _ _ (Ext.refl e1.fh)
theorem PDW.t(h:PDW X Xw a τa):ku X Xw a τa:=PW.pt h
theorem cV(ha:ku X Xw a τa):ku X Xw (.UnaryOp .Not a pos) (cJ τa):=PT.weak (GH ha) fun σ H Q ⟨F,ρ,s,w⟩=>
 ⟨F,ρ,s,WPB.mono (WPB.bindB w) fun v H1 ⟨F1,e1,w1⟩=>w1 _ _ (Ext.refl e1.fh)⟩
def uV:D→M Bool
 | .non=>M.ret false
 | .bl b=>M.ret b
 | .lst ds=>M.ret (!ds.isEmpty)
 | .tup ds=>M.ret (!ds.isEmpty)
 |_=>M.stuck
def cx(δ:DE):DT:=fun ρ=>δ ρ>>=uV
theorem DenL.isEmpty{K:W.Frag}{F:Hp}{ds:List D}{vs:List V}(h:DenL K F ds vs):ds.isEmpty=vs.isEmpty:=by
 have:=h.len
 cases ds<;>cases vs<;>simp_all
theorem c_(ha:PD X Xw a δa)(he:∀whole,isTrue a X.env whole=(do let v←whole;standAt a.pos;holding [v] (truthy v)):=by intro _;rfl):ku X Xw a (cx δa):=PT.weak (BE ha he) fun σ H Q ⟨F,ρ,s,w⟩=>by
 refine⟨F,ρ,s,WP.mono (WPB.bind (K:=X.K) w) fun v H1 ⟨F1,d,e1,q1,w1⟩=>?_⟩
 cases d with
 |non=>cases (show _=_ from q1);exact⟨false,rfl,w1 _ _ (Ext.refl e1.fh)⟩
 |bl b=>cases (show _=_ from q1);exact⟨b,rfl,w1 _ _ (Ext.refl e1.fh)⟩
 |lst ds=>
  obtain⟨a,vs,rfl,h2,h3,_⟩:=q1
  exact⟨!ds.isEmpty, .inl ⟨vs,SqL.of (e1.fh _ _ h2),by rw[h3.isEmpty]⟩,w1 _ _ (Ext.refl e1.fh)⟩
 |tup ds=>
  obtain⟨a,vs,rfl,h2,h3,_⟩:=q1
  exact⟨!ds.isEmpty, .inr (.inl ⟨vs,SqT.of (e1.fh _ _ h2),by rw[h3.isEmpty]⟩),w1 _ _ (Ext.refl e1.fh)⟩
 |_=>exact w1.elim
theorem r9{op}(h:PD X Xw a δa):PD X Xw (.BoolOp op [a] pos) δa:=Gu h
theorem om(ha:PD X Xw a δa)(hb:PD X Xw (.BoolOp .And (b::rest) pos) δb):PD X Xw (.BoolOp .And (a::b::rest) pos) (dX δa δb):=PE.weak (Gn ha hb) fun σ H Q ⟨F,ρ,s,w⟩=>by
 refine⟨F,ρ,s,WP.mono (WP.bind w) fun v H1 ⟨F1,d,e1,q1,w1⟩=>?_⟩
 cases d with
 |bl k=>
  refine⟨k,q1,?_⟩
  cases k with
  |true=>exact⟨F1,ρ,s.ext e1,w1⟩
  |false=>exact WP.now w1 e1.fh rfl
 |_=>exact w1.elim
theorem Gm(ha:PD X Xw a δa):PD X Xw (.UnaryOp .Not a pos) (Ew δa):=PE.weak (Gs ha) fun σ H Q ⟨F,ρ,s,w⟩=>by
 refine⟨F,ρ,s,WP.mono (WP.bind w) fun v H1 ⟨F1,d,e1,q1,w1⟩=>?_⟩
 cases d with
 |bl k=>exact⟨k,q1,WP.now w1 e1.fh rfl⟩
 |_=>exact w1.elim
theorem Je(hc:ku X Xw c τa)(ha:PD X Xw a δa)(hb:PD X Xw b δb):PD X Xw (.IfExp c a b pos) (Eu τa δa δb):=PE.weak (Bv hc ha hb) fun σ H Q ⟨F,ρ,s,w⟩=>by
 refine⟨F,ρ,s,WPB.mono (WP.bindB w) fun v H1 ⟨F1,e1,w1⟩=>?_⟩
 cases v with
 |true=>exact⟨F1,ρ,s.ext e1,w1⟩
 |false=>exact⟨F1,ρ,s.ext e1,w1⟩
def vf(p q:Int→Int→Bool)(a b c:DE):DE:=fun ρ=>a ρ>>=fun x=>b ρ>>=fun y=>match x,y with
 | .int i, .int j=>if p i j then c ρ>>=fun z=>gI (fun i j=> .bl (q i j)) y z else M.ret (.bl false)
 |_,_=>M.stuck
theorem qJ{p q:Int→Int→Bool}:∀σ H Q,tD X.K Xw (vf p q δa δb δc) σ H Q→wH (wu fun i j=> .bl (p i j)) (wu fun i j=> .bl (q i j)) (tD X.K Xw δa) (tD X.K Xw δb) (tD X.K Xw δc) σ H Q:=fun σ H Q ⟨F,ρ,s,w⟩=>by
 refine⟨F,ρ,s,WP.mono (WP.bind w) fun v H1 ⟨F1,d,e1,q1,w1⟩=>?_⟩
 refine⟨F1,ρ,s.ext e1,WP.mono (WP.bind w1) fun u H2 ⟨F2,d',e2,q2,w2⟩=>?_⟩
 cases d with
 |int i=>
  cases d' with
  |int j=>
   refine⟨i,j,q1,q2,p i j,rfl,?_⟩
   have w2:WP X.K Xw F2 H2 (if p i j then δc ρ>>=fun z=>gI (fun i j=> .bl (q i j)) (.int j) z else M.ret (.bl false)) Q:=w2
   cases hp:p i j with
   |false=>
    rw[hp] at w2
    exact WP.now w2 e2.fh rfl
   |true=>
    rw[hp] at w2
    refine⟨F2,ρ,(s.ext e1).ext e2,WP.mono (WP.bind w2) fun u' H3 ⟨F3,Nh,e3,q3,w3⟩=>?_⟩
    exact qj (K:=X.K) (gv:=fun i j=> .bl (q i j)) (gd:=fun i j=> .bl (q i j)) (fun _ _ _=>rfl) Xw F3 H3 u u' (.int j) Nh Q e3.fh q2 q3 w3
  |_=>exact w2.elim
 |_=>exact w2.elim
theorem Bb{op wb:CmpOp}{p q:Int→Int→Bool}(ho:OpR X (compareOp op) (wu fun i j=> .bl (p i j)))(pW:OpR X (compareOp wb) (wu fun i j=> .bl (q i j)))(ha:PD X Xw a δa)(hb:PD X Xw b δb)(hc:PD X Xw c δc)
 (hm:lastMarks [op,wb] [b,c]=false:=by with_unfolding_all rfl):PD X Xw (.Compare a [op,wb] [b,c] pos) (vf p q δa δb δc):=PE.weak (Br ho pW ha hb hc hm) qJ
theorem wq{op wb:CmpOp}{p q:Int→Int→Bool}(ho:OpR X (compareOp op) (wu fun i j=> .bl (p i j)))(pW:OpR X (compareOp wb) (wu fun i j=> .bl (q i j)))(ha:PD X Xw a δa)(hb:PD X Xw b δb)(hc:PD X Xw c δc)
 (hm:lastMarks [op,wb] [b,c]=false:=by with_unfolding_all rfl):ku X Xw (.Compare a [op,wb] [b,c] pos) (b9 (vf p q δa δb δc)):=PT.weak (BC ho pW ha hb hc hm) fun σ H Q ⟨F,ρ,s,w⟩=>by
 refine qJ σ H _ ⟨F,ρ,s,WP.mono (WPB.bind w) fun v H1 ⟨F1,d,e1,q1,w1⟩=>?_⟩
 cases d with
 |bl k=>exact⟨k,q1,w1 _ _ (Ext.refl e1.fh)⟩
 |_=>exact w1.elim
def sY(K:W.Frag)(r:List V→Hp→VK→Prop)(g:List D→M D):Prop:=∀(Xw:Nat→Hp→Prop) (F H:Hp) (vs:List V) (ds:List D) (Q:VK),Same F H→DenL K F ds vs→WP K Xw F H (g ds) Q→r vs H Q
variable{x:Str}{p:Pos}{e:Expr}{es:List Expr}{δs:DA}{id T:String}{r:List V→Hp→VK→Prop}{g:List D→M D}
theorem B3(h:sY X.K r g):∀σ H Q,tD X.K Xw (dA g δs) σ H Q→LU r (M_ X.K Xw δs) σ H Q:=fun σ H Q ⟨F,ρ,s,w⟩=>
 ⟨F,ρ,s,WPL.mono (WP.bindL w) fun vs H1 ⟨F1,ds,e1,q1,w1⟩=>h Xw F1 H1 vs ds Q e1.fh q1 w1⟩
theorem dN(hc:CallR X (.builtin id) r)(hd:sY X.K r g)(hg:Gl X x)(hm:X.mg x=none)(hv:bootBuiltins x=some (.builtin id))(ha:lu X Xw (e::es) δs)(hn:x≠"__name__":=by decide)(ri:(x==("__debug__":Str))=false:=by decide)
 (he:starEach (e::es) X.env=(false,eval e X.env)::starEach es X.env:=by rfl)(o7:(backTo pos (starEach es X.env)).any (·.1)=false:=by rfl):PD X Xw (.Call (.Name x p) (e::es) [] pos) (dA g δs):=
 PE.weak (Bq hc hg hm hv ha hn ri he o7) (B3 hd)
theorem za(hc:CallR X (.type T) r)(hd:sY X.K r g)(hg:Gl X x)(hm:X.mg x=none)(hv:bootBuiltins x=some (.type T))(ha:lu X Xw (e::es) δs)(hn:x≠"__name__":=by decide)(ri:(x==("__debug__":Str))=false:=by decide)
 (he:starEach (e::es) X.env=(false,eval e X.env)::starEach es X.env:=by rfl)(o7:(backTo pos (starEach es X.env)).any (·.1)=false:=by rfl):PD X Xw (.Call (.Name x p) (e::es) [] pos) (dA g δs):=
 PE.weak (zd hc hg hm hv ha hn ri he o7) (B3 hd)
def a6:List D→M D
 |[.lst ds]=>M.ret (.int ds.length)
 |[.tup ds]=>M.ret (.int ds.length)
 |[.str x]=>M.ret (.int x.length)
 |[.scr ns]=>M.ret (.int ns.length)
 |_=>M.stuck
theorem yK:sY X.K (fun xs H Q=>(∃p ys,xs=[.ref p]∧(SqL X.K H p ys∨SqT X.K H p ys)∧Q (.int ys.length) H)∨∃z,xs=[.str z]∧z.length≤sizeLine∧Q (.int z.length) H) a6:=fun Xw F H vs ds Q s h w=>by
 unfold a6 at w
 split at w
 ·obtain⟨v,rfl,h1⟩:=h.one
  obtain⟨a,vs,rfl,h2,h3,_⟩:=h1
  exact .inl ⟨a,vs,rfl, .inl (SqL.of (s _ _ h2)),by rw[←h3.len];exact WP.now w s rfl⟩
 ·obtain⟨v,rfl,h1⟩:=h.one
  obtain⟨a,vs,rfl,h2,h3,_⟩:=h1
  exact .inl ⟨a,vs,rfl, .inr (SqT.of (s _ _ h2)),by rw[←h3.len];exact WP.now w s rfl⟩
 ·obtain⟨v,rfl,h1⟩:=h.one
  cases (show _=_ from h1.1)
  exact .inr ⟨_,rfl,by have:=h1.2;have:=eE;omega,WP.now w s rfl⟩
 ·obtain⟨v,rfl,h1⟩:=h.one
  obtain⟨a,rfl,h2,_⟩:=h1
  exact .inl ⟨a,_,rfl, .inl (Same.seq s h2),by rw[List.length_map];exact WP.now w s rfl⟩
 ·exact w.elim
theorem bD(hg:Gl X "len")(hm:X.mg "len"=none)(ha:lu X Xw [e] δs)(he:starEach [e] X.env=[(false,eval e X.env)]:=by rfl):PD X Xw (.Call (.Name "len" p) [e] [] pos) (dA a6 δs):=
 dN (qX.or qY) yK hg hm PySem.boot_len ha (by decide) (by decide) he rfl
def zG:List D→M D
 |[.int i]=>M.ret (.int (if i<0 then -i else i))
 |_=>M.stuck
def vT:List D→M D
 |[.int i, .int j]=>M.ret (.int (if j>i then j else i))
 |_=>M.stuck
def yR:List D→M D
 |[.int i, .int j]=>M.ret (.int (if j<i then j else i))
 |_=>M.stuck
theorem Ba(hg:Gl X "abs")(hm:X.mg "abs"=none)(ha:lu X Xw [e] δs)(hb:bootBuiltins "abs"=some (.builtin "abs"))(he:starEach [e] X.env=[(false,eval e X.env)]:=by rfl):PD X Xw (.Call (.Name "abs" p) [e] [] pos) (dA zG δs):=
 dN zN (fun Xw F H vs ds Q s h w=>by
  unfold zG at w
  split at w
  ·obtain⟨v,rfl,h1⟩:=h.one
   cases (show _=_ from h1)
   exact⟨_,rfl,WP.now w s rfl⟩
  ·exact w.elim) hg hm hb ha (by decide) (by decide) he rfl
end
theorem WP.xw{K:W.Frag}{Xw Xw':Nat→Hp→Prop}{F H:Hp}{m:M D}{Q:VK}(h:WP K Xw F H m Q)(k:∀n H,Xw n H→Xw' n H):WP K Xw' F H m Q:=by
 match m,h with
 |none,h=>exact h
 |some (.ok d),h=>exact h
 |some (.ex n),h=>exact fun F' H' e=>k n H' (h F' H' e)
theorem cW{X:Cx}{Xw:Nat→Hp→Prop}{st:Stmt}{τ:DS}(h:gS X.nox (fun _ _=>False) st τ):gS X Xw st (fun ρ=>noex (τ ρ)):=fun F₀ H₀ pins s σ H D I ⟨F,ρ,S,w⟩=>by
 have w:WPS X.K Xw F₀ H₀ (noex (τ ρ)) D:=w
 have w':tS X.K (fun _ _=>False) F₀ H₀ τ D σ H:=by
  refine⟨F,ρ,S,?_⟩
  rcases(τ ρ).cs with e | ⟨n,e⟩ | ⟨o,e⟩
  ·rw[e] at w;exact w.elim
  ·rw[e] at w;exact w.elim
  ·rw[e] at w⊢
   cases o with
   |nx ρ'=>exact w
   |rt d=>exact w
 refine wpAny_mono (h F₀ H₀ pins s σ H D (I.wish _) w') (fun f s' q=>SP.unwish q) fun _ _ z=>z.elim
def EX(cv:Nat→Value)(Xw:Nat→Hp→Prop):XK:=fun c _ H=>∃n,c=cv n∧Xw n H
def Hf(K:W.Frag)(cv:Nat→Value)(k:Nat)(f:List D→M D):Sp:=fun vs H Q E=>∃F ds,Same F H∧DenL K F ds vs∧vs.length=k∧WP K (fun n H'=>E (cv n) none H') F H (f ds) Q
def bT(n:Nat)(τ:DS):List D→M D:=fun ds=>τ (ds.map (fun d=>some (Sl.fz d))++List.replicate (n - ds.length) none)>>=fun o=>match o with
 | .nx _=>M.ret .non
 | .rt d=>M.ret d
section
variable{P:Program}{w:World}{K:W.Frag}{mg:Str→Option Value}{base:Heap}{CX:vm}{cv:Nat→Value}
theorem HJ{x qual:Str}{st:Stmt}{f:Addr}{fd:FuncData}{N ps:List Str}{k:Nat}{τ:DS}(Fn:Fun K x qual st f fd)(S:FnScope N ps (af st))
 (nq:∀(bu:Value) (A:Around) (outer:List Env) (s:Shared) (H:Hp) (E:XK),Room k (A.deeper (envOfC qual (af st) s.heap.objs.size f bu))→
  PSDs (dW CX P w K mg base N qual (af st) f bu A outer s H E) (fun n H'=>E (cv n) none H') (aW st) τ):FnOk P w K mg base CX (k+1) f fd ps (Hf K cv ps.length (bT N.length τ)):=by
 obtain⟨oc,od,kV,doc,pm,an,bu,ct,Dv,rfl,lk,vh⟩:=Fn.ex
 refine EB lk vh S (fun vs H Q E ⟨_,_,_,_,hl,_⟩=>hl) fun A outer s H vs Q E hr Co=>?_
 obtain⟨F,ds,fh,hd,hl,hw⟩:=Co
 refine⟨_,nq bu A outer s H E hr F H,F,ds.map (fun d=>some (Sl.fz d))++List.replicate (N.length - ds.length) none,⟨Ext.refl fh,⟨fh,fun i sl e=>?_⟩,?_,fun i c a e=>?_,fun i j c c' a e=>?_⟩,?_⟩
 ·have hlen:=hd.len
  by_cases hi:i<ds.length
  ·rw[List.getElem?_append_left (by simpa using hi),List.getElem?_map] at e
   cases q:ds[i]? with
   |none=>rw[q] at e;cases e
   |some d=>
    rw[q] at e
    cases e
    obtain⟨v,e1,e2⟩:=hd.get q
    refine⟨v,?_,e2⟩
    unfold L2.start
    rw[List.getElem?_append_left (by simp;omega),List.getElem?_map,e1]
    rfl
  ·rw[List.getElem?_append_right (by simpa using hi),List.getElem?_replicate] at e
   split at e<;>cases e
 ·have hlen:=hd.len
  unfold L2.start
  simp[hlen]
 ·exfalso
  by_cases hi:i<ds.length
  ·rw[List.getElem?_append_left (by simpa using hi),List.getElem?_map] at e
   cases q:ds[i]? with
   |none=>rw[q] at e;cases e
   |some d=>rw[q] at e;cases e
  ·rw[List.getElem?_append_right (by simpa using hi),List.getElem?_replicate] at e
   split at e<;>cases e
 ·exfalso
  by_cases hi:i<ds.length
  ·rw[List.getElem?_append_left (by simpa using hi),List.getElem?_map] at e
   cases q:ds[i]? with
   |none=>rw[q] at e;cases e
   |some d=>rw[q] at e;cases e
  ·rw[List.getElem?_append_right (by simpa using hi),List.getElem?_replicate] at e
   split at e<;>cases e
 ·have hw:WP K (fun n H'=>E (cv n) none H') F H (τ (ds.map (fun d=>some (Sl.fz d))++List.replicate (N.length - ds.length) none)>>=fun o=>match o with | .nx _=>M.ret .non | .rt d=>M.ret d) Q:=hw
  rcases(τ (ds.map (fun d=>some (Sl.fz d))++List.replicate (N.length - ds.length) none)).cs with e | ⟨n,e⟩ | ⟨o,e⟩
  ·rw[e] at hw;exact hw.elim
  ·rw[e] at hw⊢;exact hw
  ·rw[e] at hw⊢
   cases o with
   |nx ρ'=>exact fun σ' F' H' s'=>hw .non H' F' s'.ext rfl
   |rt d=>exact fun v F' H' e' q=>hw v H' F' e' q
end
section
variable{X:Cx}{Xw:Nat→Hp→Prop}{CX:vm}{cv:Nat→Value}{k m:Nat}{f:Addr}{fd:FuncData}{ps:List Str}{g:List D→M D}{x:Str}{p pos:Pos}{e:Expr}{es:List Expr}{δs:DA}
theorem Dw(F:FnOk X.prog X.w X.K X.mg X.base CX k f fd ps (Hf X.K cv m g))(hr:Room k X.A)(hg:Gl X x)(hm:X.mg x=some (.ref f))(hk:PySem.W.keepIn X.K (.ref f)=true)(hb:Binds X.K fd ps [])(hx:Passes CX X (EX cv Xw))
 (ha:lu X Xw (e::es) δs)(hl:(e::es).length=m)(ri:(x==("__debug__":Str))=false:=by decide)(he:starEach (e::es) X.env=(false,eval e X.env)::starEach es X.env:=by rfl)(o7:(backTo pos (starEach es X.env)).any (·.1)=false:=by rfl):
 PD X Xw (.Call (.Name x p) (e::es) [] pos) (fun ρ=>δs ρ>>=fun ds=>if ds.length=m then g ds else M.stuck):=PE.weak (DK F hr hg hm hk hb .nil hx ha ri he o7) fun σ H Q ⟨F,ρ,s,w⟩=>by
 refine⟨F,ρ,s,WPL.mono (WP.bindL w) fun vs H1 ⟨F1,ds,e1,q1,w1⟩=>?_⟩
 split at w1
 ·rename_i Ig
  refine⟨F1,ds,e1.fh,by simpa using q1,by rw[List.append_nil,←q1.len];exact Ig,WP.xw w1 fun n H h=>⟨n,rfl,h⟩⟩
 ·exact w1.elim
theorem xJ{x:Str}{d:D}{v:V}{u:Value}(hg:Gl X x)(hm:X.mg x=some u)(r:RelV v u)(hd:∀F,Den X.K F d v)(ri:(x==("__debug__":Str))=false:=by decide):PD X Xw (.Name x pos) (dC d):=
 gc (DN hg hm r ri) hd
end
theorem obj_some{P:Program}{w:World}{H:Hp}{h:Heap}{a:Addr}{o:HO}(x:ObjOk P w H h a o):∃ob,h.get? a=some ob:=by
 cases o with
 |lst xs=>obtain⟨_,_,_,_,e⟩:=x;exact⟨_,e⟩
 |tup xs=>obtain⟨_,_,_,ob,e,_⟩:=x;exact⟨_,e⟩
 |dK aw=>obtain⟨_,_,_,_,o,_,_,e,_⟩:=x;exact⟨_,e⟩
 |dT aw=>obtain⟨_,_,_,_,o,_,_,e,_⟩:=x;exact⟨_,e⟩
 |set S n=>obtain⟨o,_,_,_,e,_⟩:=x;exact⟨_,e⟩
 |ins C dx fs=>obtain⟨_,_,_,e,_⟩:=x;exact⟨_,e⟩
 |own y=>obtain⟨_,e⟩:=x;exact⟨_,e⟩
 |xd fs=>obtain⟨_,⟨_,_,_,e,_⟩,_⟩:=x;exact⟨_,e⟩
 |rng lo hi=>obtain⟨_,_,_,e⟩:=x;exact⟨_,e⟩
 |frz ob u=>obtain⟨e,_⟩:=x;exact⟨_,e⟩
 |tbl ps=>exact⟨_,(show h.get? a=some _ from x)⟩
 |met f y=>exact⟨_,(show h.get? a=some _ from x)⟩
 |ext φ=>obtain⟨_,⟨_,e⟩,_⟩:=x;exact⟨_,e⟩
def kq(P:Program)(w:World)(cv:Nat→Value):vm:=fun outer H s E e s'=>∃(ea:Addr) (n:Nat) (a0:Value) (B:Heap) (H':Hp),e= .ref ea∧s'.os=s.os∧AllBare s'.gens∧HOk P w H' s'.heap∧Un (mQ outer) [] H H' s.heap s'.heap∧
 Heap.FlyingW B outer ea (cv n) a0 s'.heap∧(∀b o,s'.heap.get? b=some o→(H' b≠none∨(s.heap.get? b).isSome=true)→b∉mQ outer→B.get? b=some o)∧E (cv n) none H'
section
variable{P:Program}{w:World}{fs:List Addr}{H₀ H:Hp}{h₀ h h':Heap}
theorem Ek(u:Un fs [] H₀ H h₀ h)(ka:∀b o,h.get? b=some o→b∉fs→(H b≠none∨(h₀.get? b).isSome=true)→h'.get? b=some o)(kb:∀b o,h.get? b=some o→b∈fs→∃sl,h'.get? b=some {o with slots:=sl}):Un fs [] H₀ H h₀ h' where
 keep:=fun b o e n hb hx=>ka b o (u.keep b o e n hb hx) hb (.inr (by rw[e];rfl))
 slot:=fun b o e n hb hx=>by
  obtain⟨sl,q⟩:=u.slot b o e n hb hx
  obtain⟨GW,q'⟩:=kb b _ q hb
  exact⟨GW,q'⟩
 free:=u.free
 there:=fun b o e hx=>by
  obtain⟨o',q⟩:=u.there b o e hx
  by_cases hb:b∈fs
  ·obtain⟨sl,q'⟩:=kb b _ q hb
   exact⟨_,q'⟩
  ·exact⟨o',ka b o' q hb (.inr (by rw[e];rfl))⟩
 tups:=u.tups
 frzs:=u.frzs
 tbls:=u.tbls
theorem Ar(x:HOk P w H h)(hf:∀b∈fs,H b=none)(ka:∀b o,h.get? b=some o→b∉fs→H b≠none→h'.get? b=some o):HOk P w H h':=fun a o e=>by
 refine(x a o e).stay (fun b u hb q=>ka b u q (fun z=>?_) ?_) (fun _ q=>q) fun _ _ q=>q
 ·have hz:=hf b z
  rcases hb with rfl | hb
  ·rw[hz] at e;cases e
  ·rw[hz] at hb;cases hb
 ·rcases hb with rfl | hb
  ·rw[e];exact fun z=>nomatch z
  ·rw[hb];exact fun z=>nomatch z
end
section
variable{P:Program}{w:World}{K:W.Frag}{mg:Str→Option Value}{base:Heap}{N:List Str}{qual:Str}{scope:Scope}{f:Addr}{cd:Value}{A:Around}{outer:List Env}{s₀:Shared}{H₀:Hp}{E:XK}{cv:Nat→Value}
theorem aP:Passes (kq P w cv) (dW (kq P w cv) P w K mg base N qual scope f cd A outer s₀ H₀ E) (EX cv fun n H'=>E (cv n) none H'):=by
 intro pins σ H s e s' I ⟨ea,n,a0,B,H',he,As,hg,hok,un,Mn,hB,m,hm,hE⟩
 subst he
 have FE:((dW (kq P w cv) P w K mg base N qual scope f cd A outer s₀ H₀ E)).env.locals=s₀.heap.objs.size:=rfl
 have CV:mQ ((dW (kq P w cv) P w K mg base N qual scope f cd A outer s₀ H₀ E)).stack=s₀.heap.objs.size::mQ outer:=rfl
 show wpAny (model P w) (A.deeper (envOfC qual scope s₀.heap.objs.size f cd)) (leaving (envOfC qual scope s₀.heap.objs.size f cd) (.ref ea)) _ _ s'
 refine wpAny_leaves_onW (base:=B) (outer:=outer) (L:=s₀.heap.objs.size) I.ok.frames rfl Mn fun h' Ft ups=>?_
 have EH:∀b∈mQ ((dW (kq P w cv) P w K mg base N qual scope f cd A outer s₀ H₀ E)).stack,H' b=none:=fun b hb=>by
  obtain⟨o,ho⟩:∃o,s.heap.get? b=some o:=by
   obtain⟨_,o,ho,_⟩:=I.stack.mem hb
   exact⟨o,ho⟩
  exact un.free b o ho (I.stkFree b hb) (by simp)
 have ER:∀b o,s'.heap.get? b=some o→b∉mQ ((dW (kq P w cv) P w K mg base N qual scope f cd A outer s₀ H₀ E)).stack→(H' b≠none∨(s.heap.get? b).isSome=true)→h'.get? b=some o:=fun b o e hb hc=>Ft.1 b o (hB b o e hc hb)
 have unA:Un (mQ outer) [] H₀ H' s₀.heap s'.heap:=by
  have u1:Un (mQ outer) [] H₀ H s₀.heap s.heap:=I.base
  refine⟨fun b o e nn hb hx=>?_,fun b o e nn hb hx=>?_,fun b o e nn hx=>?_,fun b o e hx=>?_,fun b xs q=>un.tups b xs (u1.tups b xs q),fun b o u q=>un.frzs b o u (u1.frzs b o u q),fun b ps q=>?_⟩
  ·refine un.keep b o (u1.keep b o e nn hb hx) (u1.free b o e nn hx) (fun z=>?_) (by simp)
   rw[CV] at z
   rcases List.mem_cons.mp z with z | z
   ·exact absurd (Heap.lt_size e) (by rw[z];exact Nat.lt_irrefl _)
   ·exact hb z
  ·obtain⟨sl,q⟩:=u1.slot b o e nn hb hx
   obtain⟨GW,q'⟩:=un.slot b _ q (u1.free b o e nn hx) (by rw[CV];exact List.mem_cons_of_mem _ hb) (by simp)
   exact⟨GW,q'⟩
  ·obtain⟨o',q⟩:=u1.there b o e hx
   exact un.free b o' q (u1.free b o e nn hx) (by simp)
  ·obtain⟨o',q⟩:=u1.there b o e hx
   exact un.there b o' q (by simp)
  ·obtain⟨m1,q1⟩:=u1.tbls b ps q
   obtain⟨m2,q2⟩:=un.tbls b _ q1
   exact⟨m1++m2,by rw[q2,Array.append_assoc]⟩
 have MU:∀b,(s₀.heap.get? b).isSome=true→(s.heap.get? b).isSome=true:=fun b hb=>by
  obtain⟨o,ho⟩:=Option.isSome_iff_exists.mp hb
  obtain⟨o',q⟩:=(show Un (mQ outer) [] H₀ H s₀.heap s.heap from I.base).there b o ho (by simp)
  rw[q];rfl
 have LD:∀b,(s₀.heap.get? b).isSome=true→b≠s₀.heap.objs.size:=fun b hb z=>by
  obtain⟨o,ho⟩:=Option.isSome_iff_exists.mp hb
  exact absurd (Heap.lt_size ho) (by rw[z];exact Nat.lt_irrefl _)
 have IZ:∀b,b∉mQ outer→(H' b≠none∨(s₀.heap.get? b).isSome=true)→b∉mQ ((dW (kq P w cv) P w K mg base N qual scope f cd A outer s₀ H₀ E)).stack:=fun b hb hc z=>by
  rcases hc with hc | hc
  ·exact hc (EH b z)
  ·rw[CV] at z
   rcases List.mem_cons.mp z with z | z
   ·exact LD b hc z
   ·exact hb z
 refine⟨ea,n,a0,B,H',rfl,As.trans I.os,hg,Ar hok EH (fun b o e hb hc=>ER b o e hb (.inl hc)),Ek unA (fun b o e hb hc=>ER b o e (IZ b hb hc) (hc.imp id (MU b))) (fun b o e hb=>?_),Ft,fun b o e hc hb=>?_,?_⟩
 ·obtain⟨_,o',pW,hd⟩:=Mn.2.2.1.mem (show b∈mQ ((dW (kq P w cv) P w K mg base N qual scope f cd A outer s₀ H₀ E)).stack by rw[CV];exact List.mem_cons_of_mem _ hb)
  rw[e] at pW
  cases pW
  exact ups b o e hd
 ·have HU:=IZ b hb hc
  obtain⟨o',pW⟩:∃o',s'.heap.get? b=some o':=by
   rcases hc with hc | hc
   ·cases q:H' b with
    |none=>exact absurd q hc
    |some u=>
     exact obj_some (hok b u q)
   ·obtain⟨o1,h1⟩:=Option.isSome_iff_exists.mp hc
    exact unA.there b o1 h1 (by simp)
  have:=hB b o' pW (hc.imp id (MU b)) HU
  rw[Ft.1 b o' this] at e
  cases e
  exact this
 ·rw[hm];exact hE
end
section
variable{X:Cx}{Xw:Nat→Hp→Prop}{cv:Nat→Value}{n:Nat}{C:Addr}{x:Str}{np aQ pos:Pos}{e:Expr}{es:List Expr}{δs:DA}{bm:List Value}{B newId Lv:String}
end
def ES:D→Option String
 | .non=>some "NoneType"
 | .bl _=>some "bool"
 | .int _=>some "int"
 | .str _=>some "str"
 | .tup _=>some "tuple"
 | .lst _=>some "list"
 |_=>none
def FT(k T:String):Option Bool:=if T="str"∨T="int"∨T="bool"∨T="tuple"∨T="list" then some (decide (k=T)||(decide (k="bool")&&decide (T="int"))) else none
def gQ:List D→M D
 |[d, .raw (.ty T)]=>match ES d with
  |some k=>match FT k T with
   |some b=>M.ret (.bl b)
   |none=>M.stuck
  |none=>M.stuck
 |_=>M.stuck
theorem F8{K:W.Frag}{k T:String}{b:Bool}(hk:k="NoneType"∨k="bool"∨k="int"∨k="str"∨k="tuple"∨k="list")(h:FT k T=some b):PySem.W.kitOne K (.type k) (.type T)=some b:=by
 unfold FT at h
 split at h
 ·rename_i hT
  cases h
  rcases hk with rfl | rfl | rfl | rfl | rfl | rfl<;>rcases hT with rfl | rfl | rfl | rfl | rfl<;>with_unfolding_all rfl
 ·cases h
section
variable{X:Cx}{Xw:Nat→Hp→Prop}{a b e e2:Expr}{es:List Expr}{δa δb:DE}{δs:DA}{pos p:Pos}
def Jt(K:W.Frag):List V→Hp→VK→Prop:=fun xs H Q=>∃x T t b,xs=[x, .ty T]∧TyOf K H x t∧PySem.W.kitOne K t (.type T)=some b∧Q (.bl b) H
theorem zO:CallR X (.builtin "isinstance") (Jt X.K):=by
 intro pins s σ H xs us Q I r h
 obtain⟨x,T,t,b,rfl,ty,e,q⟩:=h
 obtain⟨u,w',rfl,r1,r2⟩:=vals2 r
 cases (show w'=_ from r2)
 exact yF I r1 ty e fun tk=>⟨.bl b,H,I.tok tk,rfl,q⟩
theorem Ca{K:W.Frag}{F H:Hp}{d:D}{v:V}{k:String}(s:Same F H)(h:Den K F d v)(hk:ES d=some k):TyOf K H v (.type k)∧(k="NoneType"∨k="bool"∨k="int"∨k="str"∨k="tuple"∨k="list"):=by
 cases d with
 |non=>cases hk;cases (show _=_ from h);exact⟨.non, .inl rfl⟩
 |bl x=>cases hk;cases (show _=_ from h);exact⟨.bl x, .inr (.inl rfl)⟩
 |int x=>cases hk;cases (show _=_ from h);exact⟨.int x, .inr (.inr (.inl rfl))⟩
 |str x=>cases hk;cases (show _=_ from h.1);exact⟨.str x, .inr (.inr (.inr (.inl rfl)))⟩
 |tup x=>cases hk;obtain⟨a,vs,rfl,h2,_⟩:=h;exact⟨.tup (s _ _ h2), .inr (.inr (.inr (.inr (.inl rfl))))⟩
 |lst x=>cases hk;obtain⟨a,vs,rfl,h2,_⟩:=h;exact⟨.lst (s _ _ h2), .inr (.inr (.inr (.inr (.inr rfl))))⟩
 |_=>cases hk
theorem yE{K:W.Frag}:sY K (Jt K) gQ:=fun Xw F H vs ds Q s h w=>by
 unfold gQ at w
 split at w
 ·rename_i d T
  obtain⟨v,v',rfl,h1,h2⟩:=h.two
  cases (show _=_ from h2)
  split at w
  ·rename_i k hk
   split at w
   ·rename_i b hb
    obtain⟨ty,Hb⟩:=Ca s h1 hk
    exact⟨v,T, .type k,b,rfl,ty,F8 Hb hb,WP.now w s rfl⟩
   ·exact w.elim
  ·exact w.elim
 ·exact w.elim
theorem kO(hg:Gl X "isinstance")(hm:X.mg "isinstance"=none)(hb:bootBuiltins "isinstance"=some (.builtin "isinstance"))(ha:lu X Xw [e,e2] δs)(he:starEach [e,e2] X.env=(false,eval e X.env)::starEach [e2] X.env:=by rfl)
 (o7:(backTo pos (starEach [e2] X.env)).any (·.1)=false:=by rfl):PD X Xw (.Call (.Name "isinstance" p) [e,e2] [] pos) (dA gQ δs):=
 dN zO yE hg hm hb ha (by decide) (by decide) he o7
theorem qu{x:Str}{T:String}(hg:Gl X x)(hm:X.mg x=none)(hv:bootBuiltins x=some (.type T))(hn:x≠"__name__":=by decide)(hd:(x==("__debug__":Str))=false:=by decide):PD X Xw (.Name x pos) (dC (.raw (.ty T))):=
 gc (v:= .ty T) (DJ hg hm hv (show RelV (.ty T) (.type T) from rfl) hn hd) fun _=>rfl
def bools:List D→Option (List Bool)
 |[]=>some []
 | .bl b::r=>(bools r).map (b:: ·)
 |_=>none
def allM:List D→M D
 |[.lst ds]=>match bools ds with
  |some bs=>M.ret (.bl (bs.all id))
  |none=>M.stuck
 |_=>M.stuck
theorem pN{K:W.Frag}{F:Hp}:∀{ds:List D}{vs:List V}{bs:List Bool},bools ds=some bs→DenL K F ds vs→vs=bs.map V.bl
 |[],_,_,e,h=>by cases e;exact h
 | .bl b::r,_,_,e,⟨v,r',h1,h2,h3⟩=>by
   unfold bools at e
   cases q:bools r with
   |none=>rw[q] at e;cases e
   |some bs=>rw[q] at e;cases e;subst h1;rw[pN q h3,show v= .bl b from h2];rfl
 | .non::_,_,_,e,_=>by cases e
 | .int _::_,_,_,e,_=>by cases e
 | .str _::_,_,_,e,_=>by cases e
 | .raw _::_,_,_,e,_=>by cases e
 | .exc _::_,_,_,e,_=>by cases e
 | .scr _::_,_,_,e,_=>by cases e
 | .tup _::_,_,_,e,_=>by cases e
 | .lst _::_,_,_,e,_=>by cases e
theorem xZ:∀{bs:List Bool}{aB:List Value},Vals (bs.map V.bl) aB→aB=bs.map Value.bool
 |[],_,r=>by cases r;rfl
 |b::bs,_,r=>by
  cases r with
  |cons r1 r2=>cases (show _=_ from r1);rw[xZ r2];rfl
def LJ:List V→Hp→VK→Prop:=fun xs H Q=>∃(a:Addr) (bs:List Bool),xs=[.ref a]∧H a=some (.lst (bs.map V.bl))∧Q (.bl (bs.all id)) H
theorem all_range{bs:List Bool}:(List.range bs.length).all (fun i=>bs.getD i false)=bs.all id:=by
 induction bs with
 |nil=>rfl
 |cons b bs ih=>
  rw[List.length_cons,List.range_succ_eq_map,List.all_cons,List.all_map,List.all_cons]
  congr 1
theorem yg(hc:X.calm=true):CallR X (.builtin "all") LJ:=by
 intro pins s σ H xs us Q I r h
 obtain⟨a,bs,rfl,hH,q⟩:=h
 obtain⟨u,rfl,r1⟩:=vals1 r
 cases (show u=_ from r1)
 obtain⟨aB,r2,pl,hz⟩:=I.list (SqL.of (K:=X.K) hH)
 obtain rfl:=xZ r2
 have g0:a≠s.heap.objs.size:=Nat.ne_of_lt (I.hok.lt hH)
 refine call_all_walk (wpAny_pyIter_list pl.isList ?_)
 refine⟨s.heap.objs.size,_,_,_,_,_,fun i=>bs.getD i false,rfl,Walks.list (A:=X.A.in1) (show X.A.in1.handled=none from I.ok.hd hc) s.heap.objs.size a g0 (bs.map Value.bool).toArray,⟨⟨_,Heap.get?_push_size _ rfl,rfl,rfl⟩,Heap.IsList.at pl.isList fun o e=>Heap.get?_push_of_some _ e⟩,?_,fun h' tk k=>?_⟩
 ·intro i v s' Q' E' hv hq
  have hv:(bs.map Value.bool).toArray[i]? =some v:=hv
  rw[List.getElem?_toArray,List.getElem?_map] at hv
  cases q':bs[i]? with
  |none=>rw[q'] at hv;cases hv
  |some b=>
   rw[q'] at hv
   cases hv
   have:bs.getD i false=b:=by rw[List.getD_eq_getElem?_getD,q'];rfl
   have hq:Q' (bs.getD i false) s':=hq
   rw[this] at hq
   exact wpAny_truthy_bool hq
 ·have e:(List.range (bs.map Value.bool).toArray.size).all (fun i=>bs.getD i false)=bs.all id:=by
   rw[List.size_toArray,List.length_map];exact all_range
  rw[e]
  refine⟨.bl (bs.all id),H,I.kept (h':=h') (t':=tk) fun b o e'=>k b o (fun z=>?_) (Heap.get?_push_of_some _ e'),rfl,q⟩
  have z:b=s.heap.objs.size:=by simpa using z
  exact absurd (Heap.lt_size e') (by rw[z];exact Nat.lt_irrefl _)
theorem wj(hc:X.calm=true)(hg:Gl X "all")(hm:X.mg "all"=none)(hb:bootBuiltins "all"=some (.builtin "all"))(ha:lu X Xw [e] δs)(he:starEach [e] X.env=[(false,eval e X.env)]:=by rfl):PD X Xw (.Call (.Name "all" p) [e] [] pos) (dA allM δs):=
 dN (yg hc) (fun Xw F H vs ds Q s h w=>by
  unfold allM at w
  split at w
  ·rename_i ds
   obtain⟨v,rfl,h1⟩:=h.one
   obtain⟨a,ws,rfl,h2,h3,_⟩:=h1
   split at w
   ·rename_i bs hb
    exact⟨a,bs,rfl,by rw[←pN hb h3];exact s _ _ h2,WP.now w s rfl⟩
   ·exact w.elim
  ·exact w.elim) hg hm hb ha (by decide) (by decide) he rfl
end
section
variable{X:Cx}{Xw:Nat→Hp→Prop}{a b e e2:Expr}{es:List Expr}{δ δa δb:DE}{δs:DA}{pos p apos aQ:Pos}
theorem Eg{i:Nat}:∀F₀ H₀ D σ H,tS X.K Xw F₀ H₀ (i8 i δ) D σ H→B5 (LS X.K "list" xR (oQ i) (B4 (tD X.K Xw δ) G3)) D σ H:=fun F₀ H₀ D σ H ⟨F,ρ,s,w⟩=>by
 unfold i8 at w
 cases ho:y9 ρ i with
 |none=>rw[ho] at w;exact w.elim
 |some ds=>
  rw[ho] at w
  have hi:=ql ho
  obtain⟨v,hv,a,o,rfl,hH,hF,vs,rfl,hd,hl⟩:=s.st.den i _ hi
  have w:WPS X.K Xw F₀ H₀ (δ ρ>>=fun d=>if ds.length<lim then M.ret (.nx (ρ.set i (some (.ow (.lst (ds++[d])))))) else M.stuck) D:=w
  refine⟨.ref a,hv, .inl ⟨rfl,vs,SqL.of hH⟩,F,ρ,s.st,?_⟩
  rcases(δ ρ).cs with q | ⟨n,q⟩ | ⟨d,q⟩
  ·rw[q] at w;exact w.elim
  ·rw[q] at w⊢;exact fun F' H' e'=>w F' H' (s.ext.trans e')
  ·rw[q] at w⊢
   intro u H1 F1 e1 hq
   have w:WPS X.K Xw F₀ H₀ (if ds.length<lim then M.ret (.nx (ρ.set i (some (.ow (.lst (ds++[d])))))) else M.stuck) D:=w
   split at w
   ·rename_i eZ
    have hlen:=hd.len
    refine⟨a,vs,u,rfl,rfl,e1.hh _ _ hH,by have:=eE;omega,?_⟩
    exact w σ F1 _ ((s.ext' e1).chg (c₀:= .lst (ds++[d])) hi hv ⟨_,rfl,DenL.append (DenL.mono e1.ff hd) (.cons hq .nil),by rw[List.length_append];exact eZ⟩)
   ·exact w.elim
theorem Eh{i:Nat}:∀F₀ H₀ D σ H,tS X.K Xw F₀ H₀ (BO i δ) D σ H→B5 (LS X.K "list" xS (oQ i) (B4 (tD X.K Xw δ) G3)) D σ H:=fun F₀ H₀ D σ H ⟨F,ρ,s,w⟩=>by
 unfold BO at w
 cases ho:y9 ρ i with
 |none=>rw[ho] at w;exact w.elim
 |some ds=>
  rw[ho] at w
  have hi:=ql ho
  obtain⟨v,hv,a,o,rfl,hH,hF,vs,rfl,hd,hl⟩:=s.st.den i _ hi
  have w:WPS X.K Xw F₀ H₀ (δ ρ>>=fun d=>lstM d>>=fun es=>if ds.length+es.length≤lim then M.ret (.nx (ρ.set i (some (.ow (.lst (ds++es)))))) else M.stuck) D:=w
  refine⟨.ref a,hv, .inl ⟨rfl,vs,SqL.of hH⟩,F,ρ,s.st,?_⟩
  rcases(δ ρ).cs with q | ⟨n,q⟩ | ⟨d,q⟩
  ·rw[q] at w;exact w.elim
  ·rw[q] at w⊢;exact fun F' H' e'=>w F' H' (s.ext.trans e')
  ·rw[q] at w⊢
   intro u H1 F1 e1 hq
   cases d with
   |lst es=>
    obtain⟨b,ws,rfl,k2,k3,k4⟩:=hq
    have w:WPS X.K Xw F₀ H₀ (if ds.length+es.length≤lim then M.ret (.nx (ρ.set i (some (.ow (.lst (ds++es)))))) else M.stuck) D:=w
    split at w
    ·rename_i eZ
     have hlen:=hd.len
     have MJ:=k3.len
     refine⟨a,b,vs,ws,rfl,rfl,e1.hh _ _ hH,e1.fh _ _ k2,by have:=eE;omega,?_⟩
     exact w σ F1 _ ((s.ext' e1).chg (c₀:= .lst (ds++es)) hi hv ⟨_,rfl,DenL.append (DenL.mono e1.ff hd) k3,by rw[List.length_append];exact eZ⟩)
    ·exact w.elim
   |_=>exact w.elim
theorem iX{i:Nat}{x:Str}(hv:PE X (.Name x p) (oQ i))(he:PD X Xw e δ)(hs:swapsWith (.Call (.Attribute (.Name x p) "append" apos) [e] [] aQ) none pos.line X.env=pure false:=by rfl)
 (f7:attributeBase (.Name x p) "append" X.env (eval (.Name x p) X.env)=eval (.Name x p) X.env:=by rfl)
 (nv:((backTo aQ (starEach [e] X.env)).all (fun x=>!x.1)&&(backToKw aQ (keywordEach [] X.env)).all (fun x=>x.1.isSome)&&decide ([e].length+([]:List Keyword).length+(if ([]:List Keyword).isEmpty then 0 else 1)<30))=true:=by rfl)
 (f9:(apos.endLine==aQ.line)=true:=by rfl)(vi:starEach [e] X.env=[(false,eval e X.env)]:=by rfl):gS X Xw (.Expr (.Call (.Attribute (.Name x p) "append" apos) [e] [] aQ) pos) (i8 i δ):=fun F₀ H₀=>
 PS.weak (mT (Bp PySem.F.plainAttrs_list PySem.F.slot_list_append PySem.F.type_list_append qe hv (rV he rW vi) f7 nv f9 vi rfl) hs) fun D σ H w=>Eg F₀ H₀ D σ H w
theorem DW{i:Nat}{x:Str}(hv:PE X (.Name x p) (oQ i))(he:PD X Xw e δ)(hs:swapsWith (.Call (.Attribute (.Name x p) "extend" apos) [e] [] aQ) none pos.line X.env=pure false:=by rfl)
 (f7:attributeBase (.Name x p) "extend" X.env (eval (.Name x p) X.env)=eval (.Name x p) X.env:=by rfl)
 (nv:((backTo aQ (starEach [e] X.env)).all (fun x=>!x.1)&&(backToKw aQ (keywordEach [] X.env)).all (fun x=>x.1.isSome)&&decide ([e].length+([]:List Keyword).length+(if ([]:List Keyword).isEmpty then 0 else 1)<30))=true:=by rfl)
 (f9:(apos.endLine==aQ.line)=true:=by rfl)(vi:starEach [e] X.env=[(false,eval e X.env)]:=by rfl):gS X Xw (.Expr (.Call (.Attribute (.Name x p) "extend" apos) [e] [] aQ) pos) (BO i δ):=fun F₀ H₀=>
 PS.weak (mT (Bp PySem.F.plainAttrs_list PySem.F.slot_list_extend PySem.F.type_list_extend yT hv (rV he rW vi) f7 nv f9 vi rfl) hs) fun D σ H w=>Eh F₀ H₀ D σ H w
theorem A5:OpR X (binaryOp .Add) (fun x y H Q=>∃a b ys,x= .ref a∧y= .ref b∧SqT X.K H a []∧SqT X.K H b ys∧Q (.ref b) H):=by
 intro pins s σ H x y v u Q I rx ry h
 obtain⟨a,b,ys,rfl,rfl,ha,hb,q⟩:=h
 cases rx
 cases ry
 obtain⟨aB,r1,p1,_⟩:=I.tuple ha
 obtain⟨e8,r2,p2,_⟩:=I.tuple hb
 cases r1
 obtain⟨⟨cls,dd,data,sl⟩,ho,hc,n,hd⟩:=id p1
 obtain⟨⟨Hv,yt,data2,E5⟩,Cm,Cj,n2,hd2⟩:=id p2
 simp only at hc hd Cj hd2
 subst hc hd Cj hd2
 exact concat_meets ⟨_,ho,rfl⟩ ⟨_,Cm,rfl⟩ noFill_tuple_add seq_tuple_add PySem.F.slot_tuple_add PySem.F.entry_tuple_add (PySem.F.args_tuple_add_2 _ _)
  (tuple_addW0 a b _ _ n n2 dd yt sl E5 (by simp)) ⟨ho,Cm,⟨.ref b,H,I,rfl,q⟩⟩
def tP:D→D→M D
 | .tup x, .tup y=>if x.length+y.length≤lim then M.ret (.tup (x++y)) else M.stuck
 |_,_=>M.stuck
theorem Dx(ha:PD X Xw a δa)(hb:PD X Xw b δb):PD X Xw (.BinOp a .Add b pos) (d2 tP δa δb):=qt (A5.or Dl) (fun Xw F H x y dx dy Q s hx hy w=>by
 unfold tP at w
 split at w
 ·rename_i i j
  obtain⟨a,vs,h1,h2,h3,h4⟩:=hx
  obtain⟨a',vs',k1,k2,k3,k4⟩:=hy
  split at w
  ·rename_i hl
   have e1:=h3.len
   have e2:=k3.len
   have:=eE
   by_cases hv:vs=[]
   ·subst hv
    have:i=[]:=by cases i with | nil=>rfl | cons _ _=>simp at e1
    subst this
    exact .inl ⟨a,a',vs',h1,k1,SqT.of (s _ _ h2),SqT.of (s _ _ k2),WP.now w s ⟨a',vs',k1▸rfl,k2,k3,k4⟩⟩
   ·refine .inr ⟨a,a',vs,vs',h1,k1,SqT.of (s _ _ h2),SqT.of (s _ _ k2),hv,by omega,fun z=>?_,fun z p hp=>?_⟩
    ·subst z
     have:j=[]:=by cases j with | nil=>rfl | cons _ _=>simp at e2
     subst this
     rw[List.append_nil] at w
     exact WP.now w s ⟨a,vs,rfl,h2,h3,h4⟩
    ·exact WP.fin w (Ext.lay s hp) ⟨p,_,rfl,aD,DenL.mono (Ext.lay s hp).ff (h3.append k3),by rw[List.length_append];exact hl⟩
  ·exact w.elim
 ·exact w.elim) ha hb
end
section
variable{X:Cx}{Xw:Nat→Hp→Prop}{a b e e2 o:Expr}{es:List Expr}{δ δa δb δo:DE}{δs:DA}{pos p apos aQ:Pos}
def dM(kd:D→Bool)(g:D→List D→M D)(o:DE)(s:DA):DE:=fun ρ=>o ρ>>=fun d=>if kd d then s ρ>>=fun ds=>g d ds else M.stuck
theorem EZ{T:String}{name:Str}{id:String}{r:V→List V→Hp→VK→Prop}{kd:D→Bool}{g:D→List D→M D}(pa:PlainAttrs T)(slot:Slot T name id)(Lk:typeOf (.builtin id)=pure (.type "method_descriptor"))(hm:JM X id r)
 (hk:∀(F H:Hp) (x:V) (d:D),kd d=true→Same F H→Den X.K F d x→JI X.K T x H)
 (hd:∀(Xw:Nat→Hp→Prop) (F H:Hp) (x:V) (vs:List V) (d:D) (ds:List D) (Q:VK),Same F H→Den X.K F d x→DenL X.K F ds vs→WP X.K Xw F H (g d ds) Q→r x vs H Q)
 (ho:PD X Xw o δo)(ha:lu X Xw (e::es) δs)
 (f7:attributeBase o name X.env (eval o X.env)=eval o X.env:=by rfl)
 (nv:((backTo aQ (starEach (e::es) X.env)).all (fun x=>!x.1)&&(backToKw aQ (keywordEach [] X.env)).all (fun x=>x.1.isSome)
  &&decide ((e::es).length+([]:List Keyword).length+(if ([]:List Keyword).isEmpty then 0 else 1)<30))=true:=by rfl)
 (f9:(apos.endLine==aQ.line)=true:=by rfl) (hs:starEach (e::es) X.env=(false,eval e X.env)::starEach es X.env:=by rfl) (vK:(backTo aQ (starEach es X.env)).any (·.1)=false:=by rfl):
 PD X Xw (.Call (.Attribute o name apos) (e::es) [] aQ) (dM kd g δo δs):=PE.weak (Bp pa slot Lk hm ho ha f7 nv f9 hs vK) fun σ H Q ⟨F,ρ,s,w⟩=>by
 refine⟨F,ρ,s,WP.mono (WP.bind w) fun v H1 ⟨F1,d,e1,q1,w1⟩=>?_⟩
 split at w1
 ·rename_i NW
  refine⟨hk F1 H1 v d NW e1.fh q1,F1,ρ,s.ext e1,WPL.mono (WP.bindL w1) fun vs H2 ⟨F2,ds,e2,q2,w2⟩=>?_⟩
  exact hd Xw F2 H2 v vs d ds Q e2.fh (Den.mono e2.ff q1) q2 w2
 ·exact w1.elim
def AB:D→Bool
 | .str _=>true
 |_=>false
def p0:D→Bool
 | .lst _=>true
 |_=>false
theorem FR{K:W.Frag}(F H:Hp)(x:V)(d:D)(h:AB d=true)(s:Same F H)(q:Den K F d x):JI K "str" x H:=by
 cases d with
 |str z=>cases (show _=_ from q.1);exact rfl
 |_=>cases h
theorem AA{K:W.Frag}(F H:Hp)(x:V)(d:D)(h:p0 d=true)(s:Same F H)(q:Den K F d x):JI K "list" x H:=by
 cases d with
 |lst z=>obtain⟨a,vs,rfl,h2,_⟩:=q;exact .inl ⟨rfl,vs,SqL.of (s _ _ h2)⟩
 |_=>cases h
def mM:List D→Option (List Str)
 |[]=>some []
 | .str x::r=>(mM r).map (x:: ·)
 |_=>none
theorem oU{K:W.Frag}{F:Hp}:∀{ds:List D}{vs:List V}{xs:List Str},mM ds=some xs→DenL K F ds vs→vs=xs.map V.str
 |[],_,_,e,h=>by cases e;exact h
 | .str b::r,_,_,e,⟨v,r',h1,h2,h3⟩=>by
   unfold mM at e
   cases q:mM r with
   |none=>rw[q] at e;cases e
   |some bs=>rw[q] at e;cases e;subst h1;rw[oU q h3,show v= .str b from h2.1];rfl
 | .non::_,_,_,e,_=>by cases e
 | .int _::_,_,_,e,_=>by cases e
 | .bl _::_,_,_,e,_=>by cases e
 | .raw _::_,_,_,e,_=>by cases e
 | .exc _::_,_,_,e,_=>by cases e
 | .scr _::_,_,_,e,_=>by cases e
 | .tup _::_,_,_,e,_=>by cases e
 | .lst _::_,_,_,e,_=>by cases e
theorem oW:∀{xs:List Str}{aB:List Value},Vals (xs.map V.str) aB→StrsAre aB xs
 |[],_,r=>by cases r;exact .nil
 |b::bs,_,r=>by
  cases r with
  |cons r1 r2=>obtain⟨t,rfl⟩:=r1;exact .cons b t (oW r2)
def dB:List Str→Str
 |[]=>⟨#[]⟩
 |x::r=>x++dB r
def joinM:D→List D→M D
 | .str sep,[.lst ds]=>match mM ds with
   |some xs=>if sep.length=0∧(xs.map (·.length)).sum≤lim then M.ret (.str (dB xs)) else M.stuck
   |none=>M.stuck
 | .str sep,[.tup ds]=>match mM ds with
   |some xs=>if sep.length=0∧(xs.map (·.length)).sum≤lim then M.ret (.str (dB xs)) else M.stuck
   |none=>M.stuck
 |_,_=>M.stuck
theorem m8:∀xs:List Str,(dB xs).length=(xs.map (·.length)).sum
 |[]=>rfl
 |x::r=>by
  show (x++dB r).length=_
  rw[iF,m8 r,List.map_cons,List.sum_cons]
theorem Ee{x:Str}(h:x.length=0):x=⟨#[]⟩:=by
 obtain⟨⟨l⟩⟩:=x
 have:l.length=0:=h
 cases l with
 |nil=>rfl
 |cons _ _=>simp at this
theorem mf(x:Str):x++(⟨#[]⟩:Str)=x:=by
 obtain⟨c⟩:=x
 show (⟨c++ #[]⟩:Str)=⟨c⟩
 simp
theorem lC(sep:Str)(h:sep.length=0):∀xs:List Str,Txt.join sep xs=dB xs:=by
 have e:=Ee h
 subst e
 intro xs
 show Builtin.Str.glued _ xs=_
 rw[StrLaws.glued_eq_join]
 induction xs with
 |nil=>rfl
 |cons x r ih=>
  cases r with
  |nil=>show x=x++(⟨#[]⟩:Str);rw[mf]
  |cons y r=>show x++(⟨#[]⟩:Str)++Str.join _ (y::r)=x++dB (y::r);rw[mf,ih]
def rJoin(K:W.Frag):V→List V→Hp→VK→Prop:=fun x vs H Q=>∃(sep:Str) (a:Addr) (xs:List Str),x= .str sep∧vs=[.ref a]∧(H a=some (.lst (xs.map V.str))∨H a=some (.tup (xs.map V.str)))∧sep.length=0∧(xs.map (·.length)).sum≤lim∧Q (.str (dB xs)) H
theorem Dh:JM X "str.join" (rJoin X.K):=by
 intro pins s σ H x vs v us Q I rx rv h
 obtain⟨sep,a,xs,rfl,rfl,hH,hs,hl,q⟩:=h
 obtain⟨t,rfl⟩:=rx
 obtain⟨u,rfl,r1⟩:=rv.one
 cases (show u=_ from r1)
 have hok:(xs.map (·.length)).sum+xs.length*sep.length≤16777216:=by
  rw[hs,Nat.mul_zero]
  unfold lim at hl
  omega
 rcases hH with hH | hH
 ·obtain⟨aB,r2,pl,hz⟩:=I.list (SqL.of (K:=X.K) hH)
  refine join_list pl.isList (by simpa using oW r2) hok fun t' k=>⟨.str (dB xs),H,I.tok k,⟨t',by rw[lC sep hs]⟩,q⟩
 ·obtain⟨aB,r2,pl,hz⟩:=I.tuple (SqT.of (K:=X.K) hH)
  refine join_tuple pl (by simpa using oW r2) hok fun t' k=>⟨.str (dB xs),H,I.tok k,⟨t',by rw[lC sep hs]⟩,q⟩
theorem xM(ho:PD X Xw o δo)(ha:lu X Xw [e] δs)(f7:attributeBase o "join" X.env (eval o X.env)=eval o X.env:=by rfl)
 (nv:((backTo aQ (starEach [e] X.env)).all (fun x=>!x.1)&&(backToKw aQ (keywordEach [] X.env)).all (fun x=>x.1.isSome)&&decide ([e].length+([]:List Keyword).length+(if ([]:List Keyword).isEmpty then 0 else 1)<30))=true:=by rfl)
 (f9:(apos.endLine==aQ.line)=true:=by rfl)(vi:starEach [e] X.env=[(false,eval e X.env)]:=by rfl):PD X Xw (.Call (.Attribute o "join" apos) [e] [] aQ) (dM AB joinM δo δs):=
 EZ PySem.F.plainAttrs_str PySem.F.slot_str_join PySem.F.type_str_join Dh FR (fun Xw F H x vs d ds Q s hx hv w=>by
  unfold joinM at w
  split at w
  ·rename_i sep ds
   obtain⟨v,rfl,h1⟩:=hv.one
   obtain⟨a,ws,rfl,h2,h3,_⟩:=h1
   split at w
   ·rename_i xs ID
    split at w
    ·rename_i hc
     exact⟨sep,a,xs,hx.1,rfl, .inl (by rw[←oU ID h3];exact s _ _ h2),hc.1,hc.2,WP.now w s ⟨rfl,by rw[m8];exact hc.2⟩⟩
    ·exact w.elim
   ·exact w.elim
  ·rename_i sep ds
   obtain⟨v,rfl,h1⟩:=hv.one
   obtain⟨a,ws,rfl,h2,h3,_⟩:=h1
   split at w
   ·rename_i xs ID
    split at w
    ·rename_i hc
     exact⟨sep,a,xs,hx.1,rfl, .inr (by rw[←oU ID h3];exact s _ _ h2),hc.1,hc.2,WP.now w s ⟨rfl,by rw[m8];exact hc.2⟩⟩
    ·exact w.elim
   ·exact w.elim
  ·exact w.elim) ho ha f7 nv f9 vi rfl
def B9:List D→M D
 |[.lst ds]=>M.ret (.tup ds)
 |[.tup ds]=>M.ret (.tup ds)
 |_=>M.stuck
theorem Bg(hg:Gl X "tuple")(hm:X.mg "tuple"=none)(hb:bootBuiltins "tuple"=some (.type "tuple"))(ha:lu X Xw [e] δs)(he:starEach [e] X.env=[(false,eval e X.env)]:=by rfl):PD X Xw (.Call (.Name "tuple" p) [e] [] pos) (dA B9 δs):=
 za o9 (fun Xw F H vs ds Q s h w=>by
  unfold B9 at w
  split at w
  ·rename_i ds
   obtain⟨v,rfl,h1⟩:=h.one
   obtain⟨a,ws,rfl,h2,h3,h4⟩:=h1
   exact⟨a,ws,rfl, .inl ⟨SqL.of (s _ _ h2),fun l hl=>WP.fin w (Ext.lay s hl) ⟨l,ws,rfl,aD,DenL.mono (Ext.lay s hl).ff h3,h4⟩⟩⟩
  ·rename_i ds
   obtain⟨v,rfl,h1⟩:=h.one
   obtain⟨a,ws,rfl,h2,h3,h4⟩:=h1
   exact⟨a,ws,rfl, .inr ⟨SqT.of (s _ _ h2),WP.now w s ⟨a,ws,rfl,h2,h3,h4⟩⟩⟩
  ·exact w.elim) hg hm hb ha (by decide) (by decide) he rfl
theorem wk(hc:X.calm=true)(hg:Gl X "max")(hm:X.mg "max"=none)(hb:bootBuiltins "max"=some (.builtin "max"))(ha:lu X Xw [e,e2] δs)(he:starEach [e,e2] X.env=(false,eval e X.env)::starEach [e2] X.env:=by rfl)
 (o7:(backTo pos (starEach [e2] X.env)).any (·.1)=false:=by rfl):PD X Xw (.Call (.Name "max" p) [e,e2] [] pos) (dA vT δs):=
 dN (yh hc) (fun Xw F H vs ds Q s h w=>by
  unfold vT at w
  split at w
  ·obtain⟨v,v',rfl,h1,h2⟩:=h.two
   cases (show _=_ from h1)
   cases (show _=_ from h2)
   exact⟨_,_,rfl,WP.now w s rfl⟩
  ·exact w.elim) hg hm hb ha (by decide) (by decide) he o7
theorem Be(hc:X.calm=true)(hg:Gl X "min")(hm:X.mg "min"=none)(hb:bootBuiltins "min"=some (.builtin "min"))(ha:lu X Xw [e,e2] δs)(he:starEach [e,e2] X.env=(false,eval e X.env)::starEach [e2] X.env:=by rfl)
 (o7:(backTo pos (starEach [e2] X.env)).any (·.1)=false:=by rfl):PD X Xw (.Call (.Name "min" p) [e,e2] [] pos) (dA yR δs):=
 dN (yi hc) (fun Xw F H vs ds Q s h w=>by
  unfold yR at w
  split at w
  ·obtain⟨v,v',rfl,h1,h2⟩:=h.two
   cases (show _=_ from h1)
   cases (show _=_ from h2)
   exact⟨_,_,rfl,WP.now w s rfl⟩
  ·exact w.elim) hg hm hb ha (by decide) (by decide) he o7
def nums:List D→Option (List Int)
 |[]=>some []
 | .int x::r=>(nums r).map (x:: ·)
 |_=>none
theorem g6{K:W.Frag}{F:Hp}:∀{ds:List D}{vs:List V}{xs:List Int},nums ds=some xs→DenL K F ds vs→vs=xs.map V.int
 |[],_,_,e,h=>by cases e;exact h
 | .int b::r,_,_,e,⟨v,r',h1,h2,h3⟩=>by
   unfold nums at e
   cases q:nums r with
   |none=>rw[q] at e;cases e
   |some bs=>rw[q] at e;cases e;subst h1;rw[g6 q h3,show v= .int b from h2];rfl
 | .non::_,_,_,e,_=>by cases e
 | .str _::_,_,_,e,_=>by cases e
 | .bl _::_,_,_,e,_=>by cases e
 | .raw _::_,_,_,e,_=>by cases e
 | .exc _::_,_,_,e,_=>by cases e
 | .scr _::_,_,_,e,_=>by cases e
 | .tup _::_,_,_,e,_=>by cases e
 | .lst _::_,_,_,e,_=>by cases e
def tQ(neg:Bool):D→D→M D
 | .int i, .tup ds=>match nums ds with | some ns=>M.ret (.bl (if neg then !ns.contains i else ns.contains i)) | none=>M.stuck
 |_,_=>M.stuck
theorem Ax(i:Int)(ns:List Int):Kg (.int i) (ns.map V.int)=ns.contains i:=by
 unfold Kg
 rw[List.any_map]
 induction ns with
 |nil=>rfl
 |cons n ns ih=>
  rw[List.any_cons,List.contains_cons,ih]
  congr 1
  show Cg (.int n) (.int i)=(i==n)
  unfold Cg
  exact Bool.beq_comm
theorem Aw{neg:Bool}{K:W.Frag}:sZ K (LK K neg) (tQ neg):=fun Xw F H x y dx dy Q s hx hy w=>by
 unfold tQ at w
 split at w
 ·rename_i i ds
  obtain⟨a,vs,h1,h2,h3,h4⟩:=hy
  split at w
  ·rename_i ns hn
   have hv:=g6 hn h3
   subst hv
   cases (show _=_ from hx)
   refine⟨a,ns.map V.int,h1, .inr (SqT.of (s _ _ h2)),rfl,?_,?_⟩
   ·rw[List.all_map]
    exact List.all_eq_true.mpr fun _ _=>rfl
   ·rw[Ax]
    exact WP.now w s rfl
  ·exact w.elim
 ·exact w.elim
theorem zh(ha:PD X Xw a δa)(hb:PD X Xw b δb)(hm:behindInMarks .NotIn b=false:=by rfl):ku X Xw (.Compare a [.NotIn] [b] pos) (b9 (d2 (tQ true) δa δb)):=dP rT Aw ha hb hm
def Ad(neg:Bool):D→D→M D
 | .str x, .str y=>M.ret (.bl (if neg then !(!(Builtin.Str.occurrences y x 0 y.length 1).isEmpty) else !(Builtin.Str.occurrences y x 0 y.length 1).isEmpty))
 |_,_=>M.stuck
theorem Gj(ha:PD X Xw a δa)(hb:PD X Xw b δb)(hm:behindInMarks .In b=false:=by rfl):PD X Xw (.Compare a [.In] [b] pos) (d2 (Ad false) δa δb):=Bc y0 (fun Xw F H x y dx dy Q s hx hy w=>by
 unfold Ad at w
 split at w
 ·exact⟨_,_,hx.1,hy.1,WP.now w s rfl⟩
 ·exact w.elim) ha hb hm
end
end L3
namespace L3
open PySem PySem.Spec L2 SeqAt HT
open PyProof.Rows hiding St
section
variable{prog:Program}{w:World}{A:Around}{E:Value→Shared→Prop}{s:Shared}
theorem i6{t sl:Addr}{items:Array Value}{vl vu:Value}{lo hi:Option Int}{Q:Value→Shared→Prop}(ht:IsTup s.heap t items)(hs:s.heap.IsSliceOf sl vl vu .none)(pl:IsPart vl lo)(pu:IsPart vu hi)
 (hw:sIx items.size 0 lo=0∧sIx items.size items.size hi=items.size)(h:Q (.ref t) s):wpAny (model prog w) A (getItem (.ref t) (.ref sl)) Q E s:=by
 obtain⟨os,As,J1,EG⟩:=id hs
 have KL:s.TypeIs (.ref sl) "slice":=⟨os,As,J1⟩
 unfold getItem
 try with_reducible refine wpAny_holding ?_
 first | refine wpAny_bind (wpAny_pure ?_) | skip
 refine wpAny_bind (wpAny_sequenceKey ht.typeIs (by decide) ?_)
 refine wpAny_bind (wpAny_callSpecial?_slot (name:=Str.ofString "__getitem__") ht.typeIs PyProof.Rows.slot_tuple_getitem
  (wpAny_call_entry PyProof.Rows.slot_tuple_getitem ht.typeIs entry_tuple_getitem ?_ (args_tuple_getitem _ _)))
 show wpAny _ _ (Builtin.Tuple.tupleItemsOf (.ref t)>>=_) _ _ s
 refine wpAny_bind (tupleItemsOf_ ht ?_)
 refine wpAny_bind (wpAny_typeOf KL ?_)
 rw[if_pos (by decide)]
 refine wpAny_bind (sliceApplied_gen hs pl pu ?_)
 have vJ:((((sIx items.size 0 lo:Nat):Int)==0&&(1:Int)==1&&(sIx items.size items.size hi - sIx items.size 0 lo)==items.size)=true):=by
  rw[hw.1,hw.2]
  simp
 show wpAny _ _ (if (((sIx items.size 0 lo:Nat):Int)==0&&(1:Int)==1&&(sIx items.size items.size hi - sIx items.size 0 lo)==items.size)=true then _ else _) _ _ s
 rw[if_pos vJ]
 refine wpAny_bind ?_
 unfold Builtin.Tuple.tupleIsExact
 refine wpAny_bind (wpAny_typeOf ht.typeIs (wpAny_pure ?_))
 rw[if_pos (by decide)]
 exact wpAny_bind (wpAny_rule (wpAny_pure ⟨_,rfl,wpAny_pure h⟩))
end
section
variable{X:Cx}{Xw:Nat→Hp→Prop}{a b e:Expr}{lo hi:Option Expr}{δ δa δb:DE}{pos p p2:Pos}
theorem Eb:SlR X (fun x lo hi H Q=>∃a xs,x= .ref a∧SqT X.K H a xs∧(sIx xs.length 0 lo=0∧sIx xs.length xs.length hi=xs.length)∧Q (.ref a) H):=by
 intro pins s σ H x v vl vu lo hi sl Q I rx hs pl pu h
 obtain⟨a,xs,rfl,hx,hw,q⟩:=h
 cases rx
 obtain⟨aB,r,ht,hz⟩:=I.tuple hx
 have hlen:aB.toArray.size=xs.length:=by rw[List.size_toArray];exact r.length.symm
 exact⟨"tuple",_,PyProof.Rows.slot_tuple_getitem.lookup,ht.typeIs,i6 ht hs pl pu (by rw[hlen];exact hw) ⟨.ref a,H,I,rfl,q⟩⟩
theorem GX:SlR X (fun x lo hi H Q=>∃z:Str,x= .str z∧z.length≤lim∧Q (.str (Txt.slice z lo hi)) H):=by
 intro pins s σ H x v vl vu lo hi sl Q I rx hs pl pu h
 obtain⟨z,rfl,hl,q⟩:=h
 obtain⟨t,rfl⟩:=rx
 have hz:z.length≤sizeLine:=by have:=eE;omega
 cases pl with
 |none=>
  cases pu with
  |none=>exact⟨"str",_,PySem.F.slot_str_getitem.lookup,typeIs_str _ _ _,wpAny_getItem_str_slice (l:=none) (u:=none) (st:=none) hs rfl (post_val_or_str ⟨Nat.le_trans (Txt.slice_le z _ _) hz,fun t' k=>⟨.str _,H,I.tok k,⟨t',rfl⟩,q⟩⟩)⟩
  |int j uj=>exact⟨"str",_,PySem.F.slot_str_getitem.lookup,typeIs_str _ _ _,wpAny_getItem_str_slice (l:=none) (u:=some (j,uj)) (st:=none) hs rfl (post_val_or_str ⟨Nat.le_trans (Txt.slice_le z _ _) hz,fun t' k=>⟨.str _,H,I.tok k,⟨t',rfl⟩,q⟩⟩)⟩
 |int i ui=>
  cases pu with
  |none=>exact⟨"str",_,PySem.F.slot_str_getitem.lookup,typeIs_str _ _ _,wpAny_getItem_str_slice (l:=some (i,ui)) (u:=none) (st:=none) hs rfl (post_val_or_str ⟨Nat.le_trans (Txt.slice_le z _ _) hz,fun t' k=>⟨.str _,H,I.tok k,⟨t',rfl⟩,q⟩⟩)⟩
  |int j uj=>exact⟨"str",_,PySem.F.slot_str_getitem.lookup,typeIs_str _ _ _,wpAny_getItem_str_slice (l:=some (i,ui)) (u:=some (j,uj)) (st:=none) hs rfl (post_val_or_str ⟨Nat.le_trans (Txt.slice_le z _ _) hz,fun t' k=>⟨.str _,H,I.tok k,⟨t',rfl⟩,q⟩⟩)⟩
abbrev DO:=aX→M (Option Int)
def WPO(Xw:Nat→Hp→Prop)(F H:Hp)(m:M (Option Int))(Q:Option Int→Hp→Prop):Prop:=
 match m with
 |none=>False
 |some (.ok b)=>∀H' F',Ext F H F' H'→Q b H'
 |some (.ex n)=>∀F' H',Ext F H F' H'→Xw n H'
def OR(K:W.Frag)(Xw:Nat→Hp→Prop)(δ:DO):TO:=fun σ H Q=>∃F ρ,StE K F H σ ρ∧WPO Xw F H (δ ρ) Q
def JO(X:Cx)(Xw:Nat→Hp→Prop)(e:Option Expr)(δ:DO):Prop:=PO X e (OR X.K Xw δ)
def oN:DO:=fun _=>M.ret none
def oS(δ:DE):DO:=fun ρ=>δ ρ>>=fun d=>match d with | .int i=>M.ret (some i) | _=>M.stuck
theorem Bj:JO X Xw none oN:=fun pins s σ H Q I ⟨F,ρ,S,w⟩=>DQ pins s σ H Q I (w H F (Ext.refl S.fh))
theorem Bm(h:PD X Xw e δ):JO X Xw (some e) (oS δ):=fun pins s σ H Q I ⟨F,ρ,S,w⟩=>DR h pins s σ H Q I ⟨F,ρ,S,by
 have w:WPO Xw F H (δ ρ>>=fun d=>match d with | .int i=>M.ret (some i) | _=>M.stuck) Q:=w
 rcases(δ ρ).cs with q | ⟨n,q⟩ | ⟨d,q⟩
 ·rw[q] at w;exact w.elim
 ·rw[q] at w⊢;exact w
 ·rw[q] at w⊢
  intro v H' F' e' hd
  cases d with
  |int i=>exact⟨i,hd,w H' F' e'⟩
  |_=>exact w.elim⟩
theorem WP.bindO{K:W.Frag}{Xw:Nat→Hp→Prop}{F H:Hp}{Q:VK}{m:M (Option Int)}{k:Option Int→M D}(h:WP K Xw F H (m>>=k) Q):WPO Xw F H m fun b H1=>∃F1,Ext F H F1 H1∧WP K Xw F1 H1 (k b) Q:=by
 match m,h with
 |none,h=>exact h
 |some (.ok d),h=>exact fun H2 F2 e2=>⟨F2,e2,WP.ext e2 (show WP K Xw F H (k d) Q from h)⟩
 |some (.ex n),h=>exact h
theorem WPO.mono{Xw:Nat→Hp→Prop}{F H:Hp}{m:M (Option Int)}{Q Q':Option Int→Hp→Prop}(h:WPO Xw F H m Q)(k:∀v H',Q v H'→Q' v H'):WPO Xw F H m Q':=by
 match m,h with
 |none,h=>exact h
 |some (.ok d),h=>exact fun H2 F2 e2=>k _ _ (h H2 F2 e2)
 |some (.ex n),h=>exact h
def cutD(ds:List D)(lo hi:Option Int):List D:=(ds.drop (sIx ds.length 0 lo)).take (sIx ds.length ds.length hi - sIx ds.length 0 lo)
def ON:D→Option Int→Option Int→M D
 | .tup ds,lo,hi=>M.ret (.tup (cutD ds lo hi))
 | .lst ds,lo,hi=>M.ret (.lst (cutD ds lo hi))
 | .str x,lo,hi=>M.ret (.str (Txt.slice x lo hi))
 |_,_,_=>M.stuck
def JS(a:DE)(lo hi:DO):DE:=fun ρ=>a ρ>>=fun d=>lo ρ>>=fun l=>hi ρ>>=fun h=>ON d l h
theorem tw(ds:List D)(lo hi:Option Int):(cutD ds lo hi).length≤ds.length:=by
 unfold cutD
 rw[List.length_take,List.length_drop]
 omega
theorem DenL.cut{K:W.Frag}{F:Hp}{ds:List D}{vs:List V}(h:DenL K F ds vs)(lo hi:Option Int):DenL K F (cutD ds lo hi) (tB vs lo hi):=by
 unfold cutD tB
 rw[h.len]
 exact(h.drop _).take _
theorem Jf{δo:DE}{κl κh:DO}(he:PD X Xw e δo)(hl:JO X Xw lo κl)(hh:JO X Xw hi κh):PD X Xw (.Subscript e (.Slice lo hi none p2) pos) (JS δo κl κh):=
 PE.weak (Bx (Eb.or (GY.or (Ea.or GX))) he hl hh) fun σ H Q ⟨F,ρ,s,w⟩=>by
  refine⟨F,ρ,s,WP.mono (WP.bind w) fun v H1 ⟨F1,d,e1,q1,w1⟩=>?_⟩
  refine⟨F1,ρ,s.ext e1,WPO.mono (WP.bindO w1) fun l H2 ⟨F2,e2,w2⟩=>?_⟩
  refine⟨F2,ρ,(s.ext e1).ext e2,WPO.mono (WP.bindO w2) fun h H3 ⟨F3,e3,w3⟩=>?_⟩
  have q3:=Den.mono (e2.ff.trans e3.ff) q1
  have fh:=e3.fh
  cases d with
  |tup ds=>
   obtain⟨a,vs,rfl,h2,h3,h4⟩:=q3
   by_cases hw:sIx vs.length 0 l=0∧sIx vs.length vs.length h=vs.length
   ·refine .inl ⟨a,vs,rfl,SqT.of (fh _ _ h2),hw,?_⟩
    have hc:cutD ds l h=ds:=by
     unfold cutD
     rw[h3.len,hw.1,hw.2,Nat.sub_zero,List.drop_zero,←h3.len,List.take_length]
    have w3:WP X.K Xw F3 H3 (M.ret (.tup (cutD ds l h))) Q:=w3
    rw[hc] at w3
    exact WP.now w3 fh ⟨a,vs,rfl,h2,h3,h4⟩
   ·exact .inr (.inl ⟨a,vs,rfl,SqT.of (fh _ _ h2),hw,fun p hp=>WP.fin w3 (Ext.lay fh hp) ⟨p,_,rfl,aD,DenL.mono (Ext.lay fh hp).ff (h3.cut l h),Nat.le_trans (tw _ _ _) h4⟩⟩)
  |lst ds=>
   obtain⟨a,vs,rfl,h2,h3,h4⟩:=q3
   exact .inr (.inr (.inl ⟨a,vs,rfl,SqL.of (fh _ _ h2),fun p hp=>WP.fin w3 (Ext.lay fh hp) ⟨p,_,rfl,aD,DenL.mono (Ext.lay fh hp).ff (h3.cut l h),Nat.le_trans (tw _ _ _) h4⟩⟩))
  |str x=>exact .inr (.inr (.inr ⟨x,q3.1,q3.2,WP.now w3 fh ⟨rfl,Nat.le_trans (Txt.slice_le x _ _) q3.2⟩⟩))
  |_=>exact w3.elim
end
section
variable{prog:Program}{w:World}{A:Around}{E:Value→Shared→Prop}{s:Shared}
end
section
variable{X:Cx}{Xw:Nat→Hp→Prop}{a b e:Expr}{δ δa δb:DE}{pos p p2:Pos}
end
def JK(x:Str):It:=⟨fun i _=>i<x.cps.size,fun i H v H'=>H'=H∧∃c,x.cps[i]? =some c∧v= .str ⟨#[c]⟩,fun i _=>x.cps.size≤i⟩
theorem zw{P:Program}{w:World}{K:W.Frag}{tg:Expr}(it:Addr)(x:Str)(t:Tok):Turn P w K tg (JK x) [it] it (fun i h=>i≤x.cps.size∧h.IsStrIter it "str_ascii_iterator" x t i) where
 mem:=by simp
 obj:=fun i h st b hb=>by
  have e:b=it:=by simpa using hb
  subst e
  obtain⟨_,o,e,c,d⟩:=st
  exact⟨o,e,fun v z=>by rw[d] at z;cases z⟩
 keep:=fun i h h' st k=>⟨st.1,let ⟨o,e,r⟩:=st.2;⟨o,k it (by simp) o e,r⟩⟩
 item:=by
  intro X hP hw hK hc i pins s σ H E I hf st hg
  subst hP hw hK
  obtain⟨f0,f1,f2,f3,f4,f5⟩:=hf it (by simp)
  have hi:i<x.cps.size:=hg
  refine(Walks.strAscii (prog:=X.prog) (w:=X.w) (I.ok.hd hc) it x t).item i s _ _ hi st.2 fun v h' tk hv oM kk=>?_
  obtain⟨c,u,KQ,rfl⟩:=hv
  have I1:Inv X pins σ H {s with heap:=h',toks:=tk}:=I.turned (fun b o hb e=>kk b o (by simpa using hb) e) f0 f1 f3 f4 f5
  obtain⟨o,e,cc,dd⟩:=id oM
  exact⟨_,rfl,pV (s:={s with heap:=h',toks:=tk}) e cc dd (by decide) ⟨.str ⟨#[c]⟩,H,I1,⟨u,rfl⟩,⟨rfl,c,KQ,rfl⟩,⟨hi,oM⟩,fun b hb=>(hf b hb).1⟩⟩
 done:=by
  intro X hP hw hK hc i pins s σ H E I hf st hg
  subst hP hw hK
  obtain⟨f0,f1,f2,f3,f4,f5⟩:=hf it (by simp)
  have hi:i=x.cps.size:=Nat.le_antisymm st.1 hg
  subst hi
  exact(Walks.strAscii (prog:=X.prog) (w:=X.w) (I.ok.hd hc) it x t).done s _ _ st.2 fun h' tk kk=>⟨rfl,I.turned (fun b o hb e=>kk b o (by simpa using hb) e) f0 f1 f3 f4 f5⟩
 self:=fun _ _ _ _ _ st h=>wpAny_pyIter_striter_ascii st.2 h
theorem zx{P:Program}{w:World}{K:W.Frag}{tg:Expr}(it:Addr)(x:Str)(t:Tok):Turn P w K tg (JK x) [it] it (fun i h=>i≤x.cps.size∧h.IsStrIter it "str_iterator" x t i) where
 mem:=by simp
 obj:=fun i h st b hb=>by
  have e:b=it:=by simpa using hb
  subst e
  obtain⟨_,o,e,c,d⟩:=st
  exact⟨o,e,fun v z=>by rw[d] at z;cases z⟩
 keep:=fun i h h' st k=>⟨st.1,let ⟨o,e,r⟩:=st.2;⟨o,k it (by simp) o e,r⟩⟩
 item:=by
  intro X hP hw hK hc i pins s σ H E I hf st hg
  subst hP hw hK
  obtain⟨f0,f1,f2,f3,f4,f5⟩:=hf it (by simp)
  have hi:i<x.cps.size:=hg
  refine(Walks.strWide (prog:=X.prog) (w:=X.w) (I.ok.hd hc) it x t).item i s _ _ hi st.2 fun v h' tk hv oM kk=>?_
  obtain⟨c,u,KQ,rfl⟩:=hv
  have I1:Inv X pins σ H {s with heap:=h',toks:=tk}:=I.turned (fun b o hb e=>kk b o (by simpa using hb) e) f0 f1 f3 f4 f5
  obtain⟨o,e,cc,dd⟩:=id oM
  exact⟨_,rfl,pV (s:={s with heap:=h',toks:=tk}) e cc dd (by decide) ⟨.str ⟨#[c]⟩,H,I1,⟨u,rfl⟩,⟨rfl,c,KQ,rfl⟩,⟨hi,oM⟩,fun b hb=>(hf b hb).1⟩⟩
 done:=by
  intro X hP hw hK hc i pins s σ H E I hf st hg
  subst hP hw hK
  obtain⟨f0,f1,f2,f3,f4,f5⟩:=hf it (by simp)
  have hi:i=x.cps.size:=Nat.le_antisymm st.1 hg
  subst hi
  exact(Walks.strWide (prog:=X.prog) (w:=X.w) (I.ok.hd hc) it x t).done s _ _ st.2 fun h' tk kk=>⟨rfl,I.turned (fun b o hb e=>kk b o (by simpa using hb) e) f0 f1 f3 f4 f5⟩
 self:=fun _ _ _ _ _ st h=>wpAny_pyIter_striter_wide st.2 h
section
variable{X:Cx}{Xw:Nat→Hp→Prop}{tg a b e l o:Expr}{δ δa δb δo:DE}{δs:DA}{pos p p2 apos aQ:Pos}
def Ls(tl:TE):TI:=fun σ H R=>tl σ H fun x H1=>∃z,x= .str z∧R (JK z) H1
theorem Gz{tl:TE}(hl:PE X l tl):PI X tg l (Ls tl):=by
 intro pins s σ H R I h
 refine bK (hl pins s σ H _ I h) fun v s1 ⟨x,H1,I1,r1,q1⟩=>?_
 obtain⟨z,e,q⟩:=q1
 subst e
 obtain⟨t,rfl⟩:=r1
 have fp:∀b∈[s1.heap.objs.size],o8 X pins H1 b:=fun b hb=>by
  have e:b=s1.heap.objs.size:=by simpa using hb
  subst e
  exact I1.fpOk (Nat.le_refl _) (I1.hok.fresh (Nat.le_refl _))
 cases ha:z.cps.all (· <128)
 ·exact wpAny_pyIter_wide ha ⟨s1.heap.objs.size,[s1.heap.objs.size],_,_,H1,rfl,I1.kept (t':=s1.toks) fun b o e=>Heap.get?_push_of_some _ e,zx _ z t,⟨Nat.zero_le _,_,Heap.get?_push_size _ rfl,rfl,rfl⟩,fp,q⟩
 ·exact wpAny_pyIter_ascii ha ⟨s1.heap.objs.size,[s1.heap.objs.size],_,_,H1,rfl,I1.kept (t':=s1.toks) fun b o e=>Heap.get?_push_of_some _ e,zw _ z t,⟨Nat.zero_le _,_,Heap.get?_push_size _ rfl,rfl,rfl⟩,fp,q⟩
def signs(x:Str):List D:=x.cps.toList.map fun c=>D.str ⟨#[c]⟩
def GV:D→M (List D)
 | .str x=>M.ret (signs x)
 |_=>M.stuck
theorem C0{K:W.Frag}{F:Hp}(x:Str):ItD K F (JK x) (signs x):=fun F' H' i s1 s2=>by
 refine⟨fun d e=>?_,fun hl=>show x.cps.size≤i by simpa[signs] using hl⟩
 unfold signs at e
 rw[List.getElem?_map] at e
 cases q:x.cps.toList[i]? with
 |none=>rw[q] at e;cases e
 |some c=>
  rw[q] at e
  cases e
  have hi:i<x.cps.size:=by
   have:=(List.getElem?_eq_some_iff.mp q).1
   simpa using this
  refine⟨hi,fun v H'' y=>?_⟩
  obtain⟨e2,c',ED,rfl⟩:=y
  subst e2
  have:c'=c:=by
   have q':x.cps[i]? =some c:=by simpa using q
   rw[q'] at ED
   exact(Option.some.inj ED).symm
  subst this
  exact⟨F',Ext.refl s2,rfl,by show 1≤lim;decide⟩
theorem DG(h:PD X Xw l δ):ve X Xw tg l (fun ρ=>δ ρ>>=GV):=PI.weak (Gz h) fun σ H R ⟨F,ρ,s,w⟩=>by
 refine⟨F,ρ,s,WP.mono (WPI.bind w) fun v H1 ⟨F1,d,e1,q1,w1⟩=>?_⟩
 cases d with
 |str z=>exact⟨z,q1.1,w1 _ _ _ (Ext.refl e1.fh) (C0 z)⟩
 |_=>exact w1.elim
end
end L3
namespace L3
open PySem PySem.Spec L2 SeqAt HT
open PyProof.Rows hiding St
open PySem.W (Frag Looks InstAt findIn mroIn)
open PySem.Builtin PySem.Builtin.ObjectAttr PySem.Builtin.Getset_descriptor
section
variable{prog:Program}{w:World}{A:Around}{E:Value→Shared→Prop}{h:Heap}{g:Array GenState}{d:Drawn}{t:Nat}{os:OsState}{x D:Addr}{ox:Obj}{K:Frag}
structure ExcC (K:Frag) (D:Addr):Prop where
 ga:findIn K (.ref D) "__getattribute__"=some (some (.builtin "BaseException.__getattribute__"))
 gt:findIn K (.ref D) "__getattr__"=some none
 ca:findIn K (.ref D) "__class__"=some (some (.builtin "object.__class__"))
 mo:mroIn K D (.type "object")=some true
 mb:mroIn K D (.type "BaseException")=some true
 cl:(PySem.W.clsIn K D).isSome=true
end
section
variable{X:Cx}{Xw:Nat→Hp→Prop}{e e2:Expr}{δs:DA}{pos p:Pos}
end
end L3
namespace L3
open PySem PySem.Spec L2 SeqAt HT
open PyProof.Rows hiding St
open PySem.W (Frag Looks findIn mroIn)
section
variable{X:Cx}{pins pn:List (Addr×Obj)}{σ:St}{H:Hp}{s:Shared}{E:Value→Shared→Prop}{ea:Addr}
end
section
variable{P:Program}{w:World}{K:W.Frag}{mg:Str→Option Value}{base:Heap}{N:List Str}{qual:Str}{scope:Scope}{f:Addr}{cd:Value}{A:Around}{outer:List Env}{s₀:Shared}{H₀:Hp}{E:XK}{cv:Nat→Value}
end
end L3
namespace L3
open PySem PySem.Spec L2 SeqAt HT
open PyProof.Rows hiding St
structure RoomH (k:Nat) (A:Around):Prop where
 dp:A.depth+3*k+5<recursionLimit
 un:A.units+16*k+200<cLine
theorem RoomH.deeper{k:Nat}{A:Around}(r:RoomH (k+1) A)(env:Env):RoomH k (A.deeper env):=
 ⟨by have:=r.dp;show A.depth+1+3*k+5<_;omega,by have:=r.un;show A.units+3+16*k+200<_;omega⟩
theorem RoomH.units{k:Nat}{A:Around}(r:RoomH k A):A.units+64<cLine:=by have:=r.un;omega
structure FnOkH (P:Program) (w:World) (K:W.Frag) (mg:Str→Option Value) (base:Heap) (k:Nat) (f:Addr) (fd:FuncData) (ps:List Str) (sp:Sp):Prop where
 len:∀vs H Q E,sp vs H Q E→vs.length=ps.length
 run:∀(A:Around) (outer:List Env) (s:Shared) (H:Hp) (args:Args) (us:List Value) (vs:List V) (Q:VK) (E:XK),RoomH k A→Env0 P w K mg base A outer s H→BindsTo s fd args (ps.zip us)→Vals vs us→sp vs H Q E→
  codeAny (model P w) A (.call (.ref f) args) (CR Kr outer P w H s Q E) s
section
variable{P:Program}{w:World}{K:W.Frag}{mg:Str→Option Value}{base:Heap}{cv:Nat→Value}
end
section
variable{X:Cx}{Xw:Nat→Hp→Prop}{cv:Nat→Value}{k m:Nat}{f:Addr}{fd:FuncData}{ps:List Str}{g:List D→M D}{x:Str}{p pos:Pos}{e:Expr}{es:List Expr}{δs:DA}
end
def xf(N:List Str)(osc scope:Scope)(tn:List Str):Bool:=
 decide (scope.kind= .function)&&scope.names.all (fun y=>decide (y.2≠ .cell))&&scope.names.all (fun y=>decide (y.2= .local→scope.names.lookup y.1=some .local))&&
 scope.names.all (fun y=>decide (y.2= .free→(osc.names.lookup y.1=some .cell∨osc.names.lookup y.1=some .free)))&&
 ((dm tn N).zip N).all (fun p=>decide (scope.names.lookup p.1=none∨(p.1=p.2∧scope.names.lookup p.1=some .free)))
theorem bX{X:Cx}{N:List Str}{osc scope:Scope}{tn:List Str}(hN:X.N=N)(ho:X.env.scope=osc)(h:xf N osc scope tn=true):CompSc X scope tn:=by
 unfold xf at h
 simp only[Bool.and_eq_true,List.all_eq_true,decide_eq_true_eq] at h
 obtain⟨⟨⟨⟨h1,h2⟩,h3⟩,h4⟩,h5⟩:=h
 refine⟨h1,h2,h3,fun y hy hf=>?_,?_⟩
 ·have:=h4 y hy hf
  rw[←ho] at this
  exact this
 ·rw[hN]
  exact h5
theorem dU{X:Cx}{x:Str}{px:Pos}{σ:St}(hN:X.N.Nodup)(h0:X.N[0]? =some x)(FE:X.env.scope.names.lookup x=some .local):zF X (.Name x px) 0 σ:=fun pins s σ' F H d ts v u I fh hd rv q e=>by
 have e:M.ret [d]=M.ret ts:=e
 have e:=fJ e
 subst e
 refine wpAny_assign_Name (uS I hN h0 (.inl FE) rv (fun s' I'=>⟨[v],?_, .cons q .nil⟩) (.inr FE))
 have hl:0<σ'.length:=by rw[I.len];exact(List.getElem?_eq_some_iff.mp h0).1
 have:σ'.set 0 (some v)=[v].map some++σ:=by
  cases σ' with
  |nil=>simp at hl
  |cons a r=>
   have hd:r=σ:=by simpa using hd
   subst hd
   rfl
 rw[←this]
 exact I'
theorem cy{P:Program}{w:World}{cv:Nat→Value}{X:Cx}:Passes (kq P w cv) X (EX cv fun _ _=>False):=fun _ _ _ _ _ _ _ ⟨_,_,_,_,_,_,_,_,_,_,_,_,_,_,z⟩=>z.elim
def bj(K:W.Frag)(mg:Str→Option Value)(x:Str)(st:Stmt)(f:Addr):Prop:=mg x=some (.ref f)∧∃fd,Fun K x x st f fd
def ah(P:Program)(w:World)(K:W.Frag)(mg:Str→Option Value)(base:Heap)(cv:Nat→Value)(k:Nat)(x:Str)(m:Nat)(g:List D→M D):Prop:=
 ∃f fd ps,mg x=some (.ref f)∧PySem.W.keepIn K (.ref f)=true∧Binds K fd ps []∧FnOk P w K mg base (kq P w cv) k f fd ps (Hf K cv m g)
section
variable{X:Cx}{Xw:Nat→Hp→Prop}{cv:Nat→Value}{k m:Nat}{g:List D→M D}{x:Str}{p pos:Pos}{e:Expr}{es:List Expr}{δs:DA}
def aj(m:Nat)(g:List D→M D)(δs:DA):DE:=fun ρ=>δs ρ>>=fun ds=>if ds.length=m then g ds else M.stuck
theorem aO(F:ah X.prog X.w X.K X.mg X.base cv k x m g)(hr:Room k X.A)(hg:Gl X x)(hx:Passes (kq X.prog X.w cv) X (EX cv Xw))
 (ha:lu X Xw (e::es) δs)(hl:(e::es).length=m)(ri:(x==("__debug__":Str))=false:=by decide)(he:starEach (e::es) X.env=(false,eval e X.env)::starEach es X.env:=by rfl)(o7:(backTo pos (starEach es X.env)).any (·.1)=false:=by rfl):
 PD X Xw (.Call (.Name x p) (e::es) [] pos) (aj m g δs):=by
 obtain⟨f,fd,ps,h1,h2,h3,h4⟩:=F
 exact Dw h4 hr hg h1 h2 h3 hx ha hl ri he o7
end
theorem ay{P:Program}{w:World}{K:W.Frag}{mg:Str→Option Value}{base:Heap}{cv:Nat→Value}{k:Nat}{x:Str}{st:Stmt}{f:Addr}{N ps:List Str}{τ:DS}(T:bj K mg x st f)(S:FnScope N ps (af st))
 (NF:∀(kV doc pm:Value) (an:Option Addr) (bu ct:Value) (us:List Value),us.length=ps.length→bindArgs (PySem.W.fnOf x x (ei st) (aW st) (af st) .none kV doc pm an bu ct) ⟨us,[]⟩=pure (ps.zip us))
 (nq:∀(bu:Value) (A:Around) (outer:List Env) (s:Shared) (H:Hp) (E:XK),Room k (A.deeper (envOfC x (af st) s.heap.objs.size f bu))→
  PSDs (dW (kq P w cv) P w K mg base N x (af st) f bu A outer s H E) (fun n H'=>E (cv n) none H') (aW st) τ):ah P w K mg base cv (k+1) x ps.length (bT N.length τ):=by
 obtain⟨h1,fd,Fn⟩:=T
 exact⟨f,fd,ps,h1,Fn.kp,Fn.binds NF,HJ Fn S nq⟩
section
variable{X:Cx}{Xw:Nat→Hp→Prop}{a e:Expr}{δ:DE}{pos:Pos}
def mD:D→M D
 | .int i=>M.ret (.int (-i))
 |_=>M.stuck
theorem kR(ha:PD X Xw a δ):PD X Xw (.UnaryOp .USub a pos) (d1 mD δ):=PE.weak (Jk G7 ha) fun σ H Q ⟨F,ρ,s,w⟩=>by
 refine⟨F,ρ,s,WP.mono (WP.bind w) fun v H1 ⟨F1,d,e1,q,w1⟩=>?_⟩
 cases d with
 |int i=>
  have q:v= .int i:=q
  subst q
  exact⟨i,rfl,WP.now w1 e1.fh rfl⟩
 |_=>exact w1.elim
end
section
variable{X:Cx}{Xw:Nat→Hp→Prop}{pos:Pos}
theorem DC{x z:Str}(hg:Gl X x)(h:∃t,X.mg x=some (.str z t))(hz:z.length≤lim)(ri:(x==("__debug__":Str))=false:=by decide):PD X Xw (.Name x pos) (dC (.str z)):=by
 obtain⟨t,h⟩:=h
 exact xJ (v:= .str z) hg h ⟨t,rfl⟩ (fun _=>⟨rfl,hz⟩) ri
theorem rY{x:Str}{i:Int}(hg:Gl X x)(h:∃t,X.mg x=some (.int i t))(ri:(x==("__debug__":Str))=false:=by decide):PD X Xw (.Name x pos) (dC (.int i)):=by
 obtain⟨t,h⟩:=h
 exact xJ (v:= .int i) hg h ⟨t,rfl⟩ (fun _=>rfl) ri
end
def D4(sc osc:Scope):Scope:={sc with names:=sc.names.map fun(n,k)=>if (k== .free&&osc.kind== .function&&osc.names.lookup n==some .cell) then(n, .cell) else(n,k)}
structure Box (p:Prop):Prop where
 out:p
section
variable{X:Cx}{Xw:Nat→Hp→Prop}{a:Expr}{δa:DE}{pos:Pos}
theorem eU{st:Stmt}{rest:List Stmt}{τ τ':DS}(h1:Box (gS X Xw st τ))(h2:Box (PSDs X Xw rest τ')):Box (PSDs X Xw (st::rest) (aA τ τ')):=⟨ag h1.out h2.out⟩
theorem Fi{st:Stmt}{τ:DS}(h1:Box (gS X Xw st τ)):Box (PSDs X Xw [st] τ):=⟨ao h1.out⟩
end
theorem JJ{l:PySem.W.OpenLaw}{n k:Nat}{q:Program}{loose:List Str}{XP:(Str→Option Value)→Heap→Prop}{YP:World→Heap→Prop}{d:DefRec}{K:Params→W.Frag}{x:Str}{g:List D→M D}
 (hn:l.most=some n)(J5:n≤lim)(HZ:d.params.defaults=[])(hr:Room k callerA)
 (hY:∀(w:World) (h:Heap),YP w h→(K w.params).In h)(hg:∀ns:List Int,ns.length≤n→g [.scr ns]=M.ret (.bl true))
 (F:∀(w:World) (mg:Str→Option Value) (fa:Addr) (h:Heap),(K w.params).In h→h.Ns mainGlobals mg→mg d.name=some (.ref fa)→
  ∃(cv:Nat→Value) (fd:FuncData),(∀(s:Shared) (u:Value),BindsTo s fd ⟨[u],[]⟩ [(x,u)])∧
   ∀base:Heap,(K w.params).In base→base.Ns mainGlobals mg→FnOk l.prog w (K w.params) mg base (kq l.prog w cv) k fa fd [x] (Hf (K w.params) cv 1 g)):
 PySem.W.WalkO q loose XP YP l.row.toRowW d [] (fun f vs=>PySem.call f vs):=by
 refine Att.attach_call hn HZ fun w s₀ s₁ mg mb fa o pm cd doc a vs ns G Y ho hd vh FF Aq hints hlen NQ=>?_
 have KX:=hY w _ Y
 obtain⟨cv,fd,hb,hF⟩:=F w mg fa _ KX G.T.g FF
 refine t6 KX G.T.g G.T.b G.T.builtins G.T.nolimit NQ Aq hints (Nat.le_trans hlen (Nat.le_trans J5 (Nat.le_of_lt eE))) hr hF hb (fun H hO hS=>?_) fun H e s' z=>?_
 ·refine⟨H,[.scr ns],fun _ _ e=>e,⟨_,_,rfl,⟨a,rfl,hS,Nat.le_trans hlen J5⟩,rfl⟩,rfl,?_⟩
  rw[hg ns hlen]
  exact fun v H' F' e q=>q
 ·obtain⟨_,_,_,_,_,_,_,_,_,_,_,_,_,_,y⟩:=z
section
variable{prog:Program}{w:World}{A:Around}{E:Value→Shared→Prop}{s:Shared}
end
section
variable{X:Cx}{Xw:Nat→Hp→Prop}{e Nn:Expr}{te ts:TE}{δ δs:DE}{pos p2:Pos}
variable{o:Expr}{δo:DE}{δl:DA}{apos aQ:Pos}
end
namespace RV
end RV
def IsTupRev(h:Heap)(it t:Addr)(i:Int):Prop:=∃o,h.get? it=some o∧o.cls= .type "reversed"∧o.data= .fields #[.ref t,rawInt i]
section
variable{prog:Program}{w:World}{A:Around}{E:Value→Shared→Prop}{s:Shared}
theorem IsTupRev.typeIs{it t:Addr}{i:Int}(x:IsTupRev s.heap it t i):s.TypeIs (.ref it) "reversed":=let ⟨o,ho,hc,_⟩:=x;⟨o,ho,hc⟩
end
section
variable{X:Cx}{Xw:Nat→Hp→Prop}{tg e:Expr}{es:List Expr}{δ δi:DE}{δs:DA}{pos p:Pos}
end
end L3
namespace L3
open PySem PySem.Spec L2 SeqAt HT
open PyProof.Rows hiding St
def AJ:D→Option Key
 | .int i=>some (.inl i)
 | .str x=>some (.inr x)
 |_=>none
def C7:List D→Option (List Key)
 |[]=>some []
 |d::ds=>match AJ d,C7 ds with
  |some k,some ks=>some (k::ks)
  |_,_=>none
def i7:D→Option (List Key)
 | .tup ds=>C7 ds
 |_=>none
theorem nK{K:W.Frag}{F:Hp}{d:D}{v:V}{k:Key}(e:AJ d=some k)(h:Den K F d v):v=kV k:=by
 cases d<;>first | cases e | skip
 ·exact h
 ·exact h.1
theorem jQ{K:W.Frag}{F:Hp}:∀{ds:List D}{vs:List V}{ks:List Key},C7 ds=some ks→DenL K F ds vs→vs=ks.map kV
 |[],_,_,e,h=>by cases e;exact h
 |d::ds,_,_,e,⟨v,r,h1,h2,h3⟩=>by
  unfold C7 at e
  split at e
  ·rename_i k ks e1 e2
   cases e
   subst h1
   rw[List.map_cons,nK e1 h2,jQ e2 h3]
  ·cases e
section
variable{κ:Type}[DecidableEq κ]
def eB:List κ→List D→κ→Option D
 |k'::ks,d::ds,k=>if k'=k then some d else eB ks ds k
 |_,_,_=>none
def kZ:List κ→List D→κ→D→List D
 |k'::ks,d'::ds,k,d=>(if k'=k then d else d')::kZ ks ds k d
 |_,_,_,_=>[]
theorem kf{K:W.Frag}{F:Hp}:∀{ks:List κ}{ds:List D}{vs:List V}(k:κ),DenL K F ds vs→ks.length=ds.length→
 (match eB ks ds k with | some d=>∃v,kh (ks.zip vs) k=some v∧Den K F d v | none=>kh (ks.zip vs) k=none)
 |[],[],_,_,_,_=>rfl
 |k'::ks,d::ds,_,k,⟨v,r,h1,h2,h3⟩,hl=>by
  subst h1
  unfold eB
  rw[List.zip_cons_cons]
  by_cases e:k'=k
  ·rw[if_pos e,kj (p:=(k',v)) e]
   exact⟨v,rfl,h2⟩
  ·rw[if_neg e,ki (p:=(k',v)) e]
   exact kf k h3 (by simpa using hl)
 |[],_::_,_,_,_,hl=>by simp at hl
 |_::_,[],_,_,_,hl=>by simp at hl
theorem iH{K:W.Frag}{F:Hp}{ks:List κ}{ds:List D}{vs:List V}(k:κ)(h:DenL K F ds vs)(hl:ks.length=ds.length):(kh (ks.zip vs) k).isSome=(eB ks ds k).isSome:=by
 have:=kf k h hl
 split at this
 ·rename_i d e
  obtain⟨v,e1,_⟩:=this
  rw[e1,e];rfl
 ·rename_i e
  rw[this,e]
  rfl
theorem uI{K:W.Frag}{F:Hp}{d:D}{v:V}(hd:Den K F d v):∀{ks:List κ}{ds:List D}{vs:List V}(k:κ),DenL K F ds vs→ks.length=ds.length→
 ∃ws,(ks.zip vs).map (fun kv=>if kv.1=k then(kv.1,v) else kv)=ks.zip ws∧DenL K F (kZ ks ds k d) ws
 |[],[],_,_,h,_=>⟨[],rfl,rfl⟩
 |k'::ks,d'::ds,_,k,⟨v',r,h1,h2,h3⟩,hl=>by
  subst h1
  obtain⟨ws,e1,e2⟩:=uI hd k h3 (by simpa using hl)
  by_cases e:k'=k
  ·refine⟨v::ws,?_,?_⟩
   ·rw[List.zip_cons_cons,List.map_cons,e1,if_pos e];rfl
   ·unfold kZ;rw[if_pos e];exact .cons hd e2
  ·refine⟨v'::ws,?_,?_⟩
   ·rw[List.zip_cons_cons,List.map_cons,e1,if_neg e];rfl
   ·unfold kZ;rw[if_neg e];exact .cons h2 e2
 |[],_::_,_,_,_,hl=>by simp at hl
 |_::_,[],_,_,_,hl=>by simp at hl
theorem ir:∀(ks:List κ) (ds:List D) (k:κ) (d:D),ks.length=ds.length→(kZ ks ds k d).length=ds.length
 |[],[],_,_,_=>rfl
 |_::ks,_::ds,k,d,h=>by unfold kZ;rw[List.length_cons,List.length_cons,ir ks ds k d (by simpa using h)]
 |[],_::_,_,_,h=>by simp at h
 |_::_,[],_,_,h=>by simp at h
def cX(ks:List κ)(ds:List D)(k:κ):List κ:=if (eB ks ds k).isSome then ks else ks++[k]
def cf(ks:List κ)(ds:List D)(k:κ)(d:D):List D:=if (eB ks ds k).isSome then kZ ks ds k d else ds++[d]
theorem se{K:W.Frag}{F:Hp}{d:D}{v:V}(hd:Den K F d v){ks:List κ}{ds:List D}{vs:List V}(k:κ)(h:DenL K F ds vs)(hl:ks.length=ds.length):
 ∃ws,putK (ks.zip vs) k v=(cX ks ds k).zip ws∧DenL K F (cf ks ds k d) ws∧(cX ks ds k).length=(cf ks ds k d).length:=by
 have hs:=iH (K:=K) (F:=F) k h hl
 unfold putK cX cf
 have ha:((ks.zip vs).any fun kv=>decide (kv.1=k))=(kh (ks.zip vs) k).isSome:=oV ..
 rw[ha,hs]
 cases e:(eB ks ds k).isSome with
 |true=>
  rw[if_pos rfl,if_pos rfl,if_pos rfl]
  obtain⟨ws,e1,e2⟩:=uI hd k h hl
  exact⟨ws,e1,e2,by rw[ir ks ds k d hl];exact hl⟩
 |false=>
  rw[if_neg Bool.false_ne_true,if_neg Bool.false_ne_true,if_neg Bool.false_ne_true]
  refine⟨vs++[v],?_,h.append (.cons hd .nil),by simp[hl]⟩
  rw[List.zip_append (by rw[hl];exact h.len)]
  rfl
end
theorem x_{κ:Type}{K:W.Frag}{F:Hp}{ks:List κ}{ds:List D}{vs:List V}(h:DenL K F ds vs)(hl:ks.length=ds.length):(ks.zip vs).length=ds.length:=by
 rw[List.length_zip,hl,←h.len];omega
def oJ(ρ:aX)(i:Nat):Option D:=match ρ[i]? with
 |some (some (.fz d))=>some d
 |some (some (.ow c))=>some c.d
 |_=>none
theorem BU{K:W.Frag}{F H:Hp}{σ:St}{ρ:aX}{i:Nat}{ks:List (List Key)}{ds:List D}(s:StE K F H σ ρ)(e:oJ ρ i=some (.dct ks ds)):
 ∃a vs,σ[i]? =some (some (.ref a))∧Rd H a (.dT (ks.zip vs))∧DenL K F ds vs∧ks.length=ds.length∧ds.length≤lim:=by
 unfold oJ at e
 split at e
 ·rename_i d e1
  cases e
  obtain⟨v,h1,a,ob,vs,rfl,h2,h3,h4,h5⟩:=s.den i _ e1
  exact⟨a,vs,h1, .inr ⟨ob,s.fh _ _ h2⟩,h3,h4,h5⟩
 ·rename_i c e1
  cases c<;>cases e
  obtain⟨v,h1,a,o,rfl,h2,_,vs,rfl,h3,h4,h5⟩:=s.den i _ e1
  exact⟨a,vs,h1, .inl h2,h3,h4,h5⟩
 ·cases e
theorem BS{K:W.Frag}{F H:Hp}{σ:St}{ρ:aX}{i:Nat}{ks:List Key}{ds:List D}(s:StE K F H σ ρ)(e:oJ ρ i=some (.dci ks ds)):
 ∃a vs,σ[i]? =some (some (.ref a))∧Rd H a (.dK (ks.zip vs))∧DenL K F ds vs∧ks.length=ds.length∧ds.length≤lim:=by
 unfold oJ at e
 split at e
 ·rename_i d e1
  cases e
  obtain⟨v,h1,a,ob,vs,rfl,h2,h3,h4,h5⟩:=s.den i _ e1
  exact⟨a,vs,h1, .inr ⟨ob,s.fh _ _ h2⟩,h3,h4,h5⟩
 ·rename_i c e1
  cases c<;>cases e
  obtain⟨v,h1,a,o,rfl,h2,_,vs,rfl,h3,h4,h5⟩:=s.den i _ e1
  exact⟨a,vs,h1, .inl h2,h3,h4,h5⟩
 ·cases e
def zA:D→D→Option (Option D)
 | .dct ks ds,k=>(i7 k).map (eB ks ds)
 | .dci ks ds,k=>(AJ k).map (eB ks ds)
 |_,_=>none
theorem w9{K:W.Frag}{F H:Hp}{σ:St}{ρ:aX}{i:Nat}{d k:D}{y:V}{o:Option D}(s:StE K F H σ ρ)(hi:oJ ρ i=some d)(hk:Den K F k y)(e:zA d k=some o):
 ∃a ov,σ[i]? =some (some (.ref a))∧ji H a y ov∧ov.isSome=o.isSome∧∀d',o=some d'→∃v,ov=some v∧Den K F d' v:=by
 unfold zA at e
 split at e
 ·rename_i ks ds
  cases q:i7 k with
  |none=>rw[q] at e;cases e
  |some kk=>
   rw[q] at e
   cases e
   obtain⟨a,vs,h1,h2,h3,h4,h5⟩:=BU s hi
   unfold i7 at q
   split at q
   ·rename_i es
    obtain⟨b,ws,rfl,k2,k3,_⟩:=hk
    have e1:=jQ q k3
    subst e1
    refine⟨a,_,h1, .inr ⟨_,kk,b,h2,rfl,s.fh _ _ k2,rfl⟩,iH kk h3 h4,fun d' mB=>?_⟩
    have:=kf (K:=K) (F:=F) kk h3 h4
    rw[mB] at this
    exact this
   ·cases q
 ·rename_i ks ds
  cases q:AJ k with
  |none=>rw[q] at e;cases e
  |some kk=>
   rw[q] at e
   cases e
   obtain⟨a,vs,h1,h2,h3,h4,h5⟩:=BS s hi
   have e1:=nK q hk
   subst e1
   refine⟨a,_,h1, .inl ⟨_,kk,h2,rfl,rfl⟩,iH kk h3 h4,fun d' mB=>?_⟩
   have:=kf (K:=K) (F:=F) kk h3 h4
   rw[mB] at this
   exact this
 ·cases e
section
variable{X:Cx}{Xw:Nat→Hp→Prop}{a b:Expr}{δa δb:DE}{pos:Pos}
end
section
variable{X:Cx}{Xw:Nat→Hp→Prop}{a e:Expr}{δ δk δv:DE}{pos p pos' uC apos aQ:Pos}{x:Str}{i:Nat}
def Hz(neg:Bool)(i:Nat)(δ:DE):DE:=fun ρ=>δ ρ>>=fun k=>match oJ ρ i with
 |some d=>match zA d k with
  |some o=>M.ret (.bl (if neg then !o.isSome else o.isSome))
  |none=>M.stuck
 |none=>M.stuck
theorem FP{neg:Bool}{σ:St}{H:Hp}{Q:VK}(h:tD X.K Xw (Hz neg i δ) σ H Q):(fun σ H Q=>tD X.K Xw δ σ H fun y H1=>oQ i σ H1 fun x H2=>∃a o,x= .ref a∧ji H2 a y o∧Q (.bl (if neg then !o.isSome else o.isSome)) H2) σ H Q:=by
 obtain⟨F,ρ,s,w⟩:=h
 refine⟨F,ρ,s,WP.mono (WP.bind w) fun y H1 ⟨F1,k,e1,q1,w1⟩=>?_⟩
 have s1:=s.ext e1
 cases hi:oJ ρ i with
 |none=>rw[hi] at w1;exact w1.elim
 |some d=>
  rw[hi] at w1
  have w1:WP X.K Xw F1 H1 (match zA d k with | some o=>M.ret (.bl (if neg then !o.isSome else o.isSome)) | none=>M.stuck) Q:=w1
  cases he:zA d k with
  |none=>rw[he] at w1;exact w1.elim
  |some o=>
   rw[he] at w1
   obtain⟨a,ov,h1,h2,h3,_⟩:=w9 s1 hi q1 he
   refine⟨.ref a,h1,a,ov,rfl,h2,?_⟩
   rw[h3]
   exact WP.now w1 e1.fh rfl
theorem LI(hu:X.A.units+64<cLine)(ha:PD X Xw a δ)(hv:PE X (.Name x p) (oQ i))(hm:behindInMarks .In (.Name x p)=false:=by rfl):PD X Xw (.Compare a [.In] [.Name x p] pos) (Hz false i δ):=
 PE.weak (Gp (Gi (by omega) ha hv) hm) fun σ H Q h=>FP (neg:=false) h
def uK(i:Nat):DS:=fun ρ=>M.ret (.nx (ρ.set i (some (.ow (.dct [] [])))))
theorem j7(hN:X.N.Nodup)(hi:X.N[i]? =some x)(hx:Loc X.env.scope x)(hf:X.fn x=true∨X.env.scope.names.lookup x=some .local:=by first | exact .inl rfl | exact .inr rfl):
 gS X Xw (.Assign [.Name x pos'] (.Dict [] [] uC) pos) (uK i):=fun F₀ H₀=>PS.weak (sd Bu (bc hN hi hx hf) rfl) fun D σ H ⟨F,ρ,s,w⟩=>fun q hq=>
 w _ F _ (s.setNew (c₀:= .dct [] []) hq ⟨[],rfl,rfl,rfl,Nat.zero_le _⟩)
def kU:C→D→D→Option C
 | .dct ks ds,k,d=>match i7 k with
   |some kk=>if ds.length<lim then some (.dct (cX ks ds kk) (cf ks ds kk d)) else none
   |none=>none
 | .dci ks ds,k,d=>match AJ k with
   |some kk=>if ds.length<lim then some (.dci (cX ks ds kk) (cf ks ds kk d)) else none
   |none=>none
 |_,_,_=>none
def we(ρ:aX)(i:Nat):Option C:=match ρ[i]? with
 |some (some (.ow c))=>some c
 |_=>none
theorem qk{ρ:aX}{i:Nat}{c:C}(h:we ρ i=some c):ρ[i]? =some (some (.ow c)):=by
 unfold we at h
 split at h
 ·rename_i c' e
  cases h
  exact e
 ·cases h
def gP(i:Nat)(δk δv:DE):DS:=fun ρ=>match we ρ i with
 |some c=>δv ρ>>=fun v=>δk ρ>>=fun k=>match kU c k v with
  |some c'=>M.ret (.nx (ρ.set i (some (.ow c'))))
  |none=>M.stuck
 |none=>M.stuck
theorem qy{κ:Type}[DecidableEq κ]{ks:List κ}{ds:List D}{k:κ}{d:D}(hl:ks.length=ds.length)(h:ds.length<lim):(cf ks ds k d).length≤lim:=by
 unfold cf
 split
 ·rw[ir ks ds k d hl];omega
 ·rw[List.length_append];exact h
theorem BG{K:W.Frag}{F H:Hp}{c c':C}{k d:D}{y v:V}{o:HO}{b:Addr}(hs:Same F H)(hb:H b=some o)(hc:DenC K F c o)(hk:Den K F k y)(hd:Den K F d v)(e:kU c k d=some c'):∃o',DPut H b y v (upd H b o')∧DenC K F c' o':=by
 have Ii:=eE
 unfold kU at e
 split at e
 ·rename_i ks ds k d
  obtain⟨vs,rfl,h3,h4,h5⟩:=hc
  split at e
  ·rename_i kk q
   split at e
   ·rename_i eZ
    cases e
    unfold i7 at q
    split at q
    ·rename_i es
     obtain⟨b2,ws,rfl,k2,k3,_⟩:=hk
     have e1:=jQ q k3
     subst e1
     obtain⟨us,e2,e3,e4⟩:=se hd kk h3 h4
     refine⟨_,DPut.t hb (hs _ _ k2) (by rw[x_ h3 h4];omega),us,?_,e3,e4,qy h4 eZ⟩
     rw[e2]
    ·cases q
   ·cases e
  ·cases e
 ·rename_i ks ds k d
  obtain⟨vs,rfl,h3,h4,h5⟩:=hc
  split at e
  ·rename_i kk q
   split at e
   ·rename_i eZ
    cases e
    have e1:=nK q hk
    subst e1
    obtain⟨us,e2,e3,e4⟩:=se hd kk h3 h4
    refine⟨_,DPut.k hb (by rw[x_ h3 h4];omega),us,?_,e3,e4,qy h4 eZ⟩
    rw[e2]
   ·cases e
  ·cases e
 ·cases e
theorem j8(hu:X.A.units+64<cLine)(hv:PE X (.Name x p) (oQ i))(hk:PD X Xw a δk)(he:PD X Xw e δv)(hs:swapsWith e (some (.Subscript (.Name x p) a pos')) pos.line X.env=pure false:=by rfl):
 gS X Xw (.Assign [.Subscript (.Name x p) a pos'] e pos) (gP i δk δv):=fun F₀ H₀=>PS.weak (DV (by omega) hv hk he hs) fun D σ H ⟨F,ρ,s,w⟩=>by
 unfold gP at w
 cases ho:we ρ i with
 |none=>rw[ho] at w;exact w.elim
 |some c=>
  rw[ho] at w
  have hi:=qk ho
  have w:WPS X.K Xw F₀ H₀ (δv ρ>>=fun v=>δk ρ>>=fun k=>match kU c k v with | some c'=>M.ret (.nx (ρ.set i (some (.ow c')))) | none=>M.stuck) D:=w
  refine⟨F,ρ,s.st,?_⟩
  rcases(δv ρ).cs with q | ⟨n,q⟩ | ⟨dv,q⟩
  ·rw[q] at w;exact w.elim
  ·rw[q] at w⊢;exact fun F' H' e'=>w F' H' (s.ext.trans e')
  ·rw[q] at w⊢
   intro v H1 F1 e1 hq
   have s1:=s.ext' e1
   obtain⟨u,h1,b,o,rfl,h2,h3,h4⟩:=s1.st.den i _ hi
   have w:WPS X.K Xw F₀ H₀ (δk ρ>>=fun k=>match kU c k dv with | some c'=>M.ret (.nx (ρ.set i (some (.ow c')))) | none=>M.stuck) D:=w
   refine⟨.ref b,h1,F1,ρ,s1.st,?_⟩
   rcases(δk ρ).cs with q2 | ⟨n,q2⟩ | ⟨dk,q2⟩
   ·rw[q2] at w;exact w.elim
   ·rw[q2] at w⊢;exact fun F' H' e'=>w F' H' (s1.ext.trans e')
   ·rw[q2] at w⊢
    intro y H2 F2 e2 hy
    have w:WPS X.K Xw F₀ H₀ (match kU c dk dv with | some c'=>M.ret (.nx (ρ.set i (some (.ow c')))) | none=>M.stuck) D:=w
    cases hp:kU c dk dv with
    |none=>rw[hp] at w;exact w.elim
    |some c'=>
     rw[hp] at w
     have s2:=s1.ext' e2
     obtain⟨u2,k1,b2,o2,KO,k2,k3,k4⟩:=s2.st.den i _ hi
     rw[h1] at k1
     cases k1
     cases KO
     obtain⟨o',g,hc⟩:=BG s2.st.fh k2 k4 hy (Den.mono e2.ff hq) hp
     exact⟨b,_,rfl,g,w σ F2 _ (s2.chg hi h1 hc)⟩
end
def eh(c:DT)(body:DS):Nat→DS
 |0,_=>M.stuck
 |n+1,ρ=>c ρ>>=fun b=>if b then body ρ>>=fun o=>match o with | .nx ρ'=>eh c body n ρ' | .rt d=>M.ret (.rt d) else M.ret (.nx ρ)
def wx(c:DT)(body:DS):DS:=fun ρ=>eh c body lim ρ
section
variable{X:Cx}{Xw:Nat→Hp→Prop}{τ:DS}{tc:DT}{pos:Pos}
theorem qw{c:Expr}{body:List Stmt}(hp:PassesOwn (model X.prog X.w) X.A X.env X.xe)(hc:ku X Xw c tc)(hb:PSDs X Xw body τ):gS X Xw (.While c body [] pos) (wx tc τ):=fun F₀ H₀=>PS.weak (Bz hp hc hb.ex) fun D σ H ⟨F,ρ,s,w⟩=>by
 refine⟨fun m σ H=>∃F ρ,StOk X.K F₀ H₀ F H σ ρ∧WPS X.K Xw F₀ H₀ (eh tc τ m ρ) D,⟨lim,F,ρ,s,w⟩,?_⟩
 rintro m σ H ⟨F,ρ,s,w⟩
 cases m with
 |zero=>exact w.elim
 |succ m=>
  refine⟨F,ρ,s.st,?_⟩
  unfold eh at w
  match tc ρ,w with
  |none,w=>exact w
  |some (.ex n),w=>exact fun F' H' e'=>w F' H' (s.ext.trans e')
  |some (.ok false),w=>exact fun H' F' e'=>w σ F' H' (s.ext' e')
  |some (.ok true),w=>
   intro H' F' e'
   have w:WPS X.K Xw F₀ H₀ (τ ρ>>=fun o=>match o with | .nx ρ'=>eh tc τ m ρ' | .rt d=>M.ret (.rt d)) D:=w
   refine⟨fun σ' H'=>∃F' ρ',StOk X.K F₀ H₀ F' H' σ' ρ'∧WPS X.K Xw F₀ H₀ (eh tc τ m ρ') D,fun σ' H' h=>⟨m,Nat.lt_succ_self m,h⟩,F₀,H₀,F',ρ,s.ext' e',?_⟩
   match τ ρ,w with
   |none,w=>exact w
   |some (.ok (.nx ρ')),w=>exact fun σ' F' H' s'=>⟨F',ρ',s',w⟩
   |some (.ok (.rt d)),w=>exact w
   |some (.ex n),w=>exact w
end
section
variable{X:Cx}{Xw:Nat→Hp→Prop}{a b:Expr}{δa δb:DE}{pos:Pos}
end
end L3
namespace L3
open PySem PySem.W PyProof.Rows
def c6{α:Type}(b:Nat→Nat→Bool):KasT α→α
 | .ret a=>a
 | .ask i j k=>c6 b (k (b i j))
theorem eR{α β:Type}(b:Nat→Nat→Bool)(f:α→KasT β):∀t:KasT α,c6 b (t.bind f)=c6 b (f (c6 b t))
 | .ret _=>rfl
 | .ask i j k=>eR b f (k (b i j))
structure Lt (n:Nat) (b:Nat→Nat→Bool):Prop where
 tr:∀i j k,b i j=true→b j k=true→b i k=true
 O0:∀i j,b i j=true→b j i=false
 tot:∀i j,i<n→j<n→i≠j→b i j=true∨b j i=true
abbrev at'(p:Array Nat)(i:Nat):Nat:=p.getD i 0
def Ri(b:Nat→Nat→Bool)(p:Array Nat)(k:Nat):Prop:=∀i j,i<j→j<k→b (at' p i) (at' p j)=true
def Fa(b:Nat→Nat→Bool)(p:Array Nat)(k:Nat):Prop:=∀i j,i<j→j<k→b (at' p j) (at' p i)=true
structure PN (n:Nat) (p:Array Nat):Prop where
 sz:p.size=n
 lt:∀i,i<n→at' p i<n
 inj:∀i j,i<n→j<n→at' p i=at' p j→i=j
section
variable{n:Nat}{b:Nat→Nat→Bool}(L:Lt n b)
include L
theorem Ri.more{p:Array Nat}{k:Nat}(h:Ri b p k)(h1:1≤k)(e:b (at' p (k - 1)) (at' p k)=true):Ri b p (k+1):=fun i j tU hj=>by
 by_cases hk:j<k
 ·exact h i j tU hk
 ·have:j=k:=by omega
  subst this
  by_cases hi:i=j - 1
  ·subst hi;exact e
  ·exact L.tr _ _ _ (h i (j - 1) (by omega) (by omega)) e
theorem Fa.more{p:Array Nat}{k:Nat}(h:Fa b p k)(h1:1≤k)(e:b (at' p k) (at' p (k - 1))=true):Fa b p (k+1):=fun i j tU hj=>by
 by_cases hk:j<k
 ·exact h i j tU hk
 ·have:j=k:=by omega
  subst this
  by_cases hi:i=j - 1
  ·subst hi;exact e
  ·exact L.tr _ _ _ e (h i (j - 1) (by omega) (by omega))
theorem qO{p:Array Nat}(P:PN n p):∀(f k:Nat),1≤k→k+f≤n→Ri b p k→k≤c6 b (kas_asc p f k)∧c6 b (kas_asc p f k)≤k+f∧Ri b p (c6 b (kas_asc p f k))∧(c6 b (kas_asc p f k)<k+f→b (at' p (c6 b (kas_asc p f k))) (at' p (c6 b (kas_asc p f k) - 1))=true)
 |0,k,h1,hn,h=>⟨Nat.le_refl _,Nat.le_refl _,h,fun z=>absurd z (Nat.lt_irrefl _)⟩
 |f+1,k,h1,hn,h=>by
  have e:c6 b (kas_asc p (f+1) k)=c6 b (if b (at' p k) (at' p (k - 1))=true then KasT.ret k else kas_asc p f (k+1)):=rfl
  rw[e]
  by_cases hb:b (at' p k) (at' p (k - 1))=true
  ·rw[if_pos hb]
   exact⟨Nat.le_refl _,by show k≤_;omega,h,fun _=>hb⟩
  ·rw[if_neg hb]
   have hr:b (at' p (k - 1)) (at' p k)=true:=by
    rcases L.tot (at' p (k - 1)) (at' p k) (P.lt _ (by omega)) (P.lt _ (by omega)) (fun z=>by have:=P.inj _ _ (by omega) (by omega) z;omega) with q | q
    ·exact q
    ·exact absurd q hb
   obtain⟨a1,a2,a3,a4⟩:=qO P f (k+1) (by omega) (by omega) (Ri.more L h h1 hr)
   exact⟨by omega,by omega,a3,fun z=>a4 (by omega)⟩
theorem tG{p:Array Nat}(P:PN n p):∀(f k:Nat),1≤k→k+f≤n→Fa b p k→∃m,c6 b (kas_desc f p k 0)=(p,m,0)∧k≤m∧m≤k+f∧Fa b p m
 |0,k,h1,hn,h=>⟨k,rfl,Nat.le_refl _,Nat.le_refl _,h⟩
 |f+1,k,h1,hn,h=>by
  have e:c6 b (kas_desc (f+1) p k 0)=c6 b (if b (at' p k) (at' p (k - 1))=true then(if 0>0 then kas_desc f (kas_rev p (k - (0+1)) k) (k+1) 0 else kas_desc f p (k+1) 0)
   else .ask (p.getD (k - 1) 0) (p.getD k 0) fun d=>if d=true then .ret (p,k,0) else kas_desc f p (k+1) (0+1)):=rfl
  rw[e]
  by_cases hb:b (at' p k) (at' p (k - 1))=true
  ·rw[if_pos hb,if_neg (by omega)]
   obtain⟨m,e1,e2,e3,e4⟩:=tG P f (k+1) (by omega) (by omega) (Fa.more L h h1 hb)
   exact⟨m,e1,by omega,by omega,e4⟩
  ·rw[if_neg hb]
   have hr:b (at' p (k - 1)) (at' p k)=true:=by
    rcases L.tot (at' p (k - 1)) (at' p k) (P.lt _ (by omega)) (P.lt _ (by omega)) (fun z=>by have:=P.inj _ _ (by omega) (by omega) z;omega) with q | q
    ·exact q
    ·exact absurd q hb
   refine⟨k,?_,Nat.le_refl _,by omega,h⟩
   show c6 b (if b (at' p (k - 1)) (at' p k)=true then KasT.ret (p,k,0) else kas_desc f p (k+1) (0+1))=_
   rw[if_pos hr]
   rfl
end
theorem eD(p:Array Nat)(k:Nat):at' p k=(p[k]?).getD 0:=by
 unfold at'
 rw[Array.getD_eq_getD_getElem?]
theorem BM{p:Array Nat}{m:Nat}(hm:m≤p.size)(k:Nat):at' (kas_rev p 0 m) k=if k<m then at' p (m - 1 - k) else at' p k:=by
 have e:=getElem?_mirror_all (xs:=p) (i:=0) hm k
 rw[eD]
 show (((mirror p 0 m ((m - 0) / 2))[k]?).getD 0)=_
 rw[e]
 by_cases h:k<m
 ·rw[if_pos ⟨Nat.zero_le _,h⟩,if_pos h,eD,Nat.zero_add]
 ·rw[if_neg (fun z=>h z.2),if_neg h,eD]
theorem zK{p:Array Nat}{k l:Nat}(hk:k<p.size)(hl:l≤k)(j:Nat):at' (bubble p k (k - l)) j=if j=l then at' p k else if l<j∧j≤k then at' p (j - 1) else at' p j:=by
 have e:=getElem?_bubble hk (k - l) (by omega) j
 have e2:k - (k - l)=l:=by omega
 rw[e2] at e
 rw[eD (bubble p k (k - l)),e,eD p k,eD p (j - 1),eD p j]
 by_cases c1:j=l
 ·rw[if_pos c1,if_pos c1]
 ·rw[if_neg c1,if_neg c1]
  by_cases c2:l<j∧j≤k
  ·rw[if_pos c2,if_pos c2]
  ·rw[if_neg c2,if_neg c2]
section
variable{n:Nat}{b:Nat→Nat→Bool}
theorem PN.rev{p:Array Nat}(P:PN n p){m:Nat}(hm:m≤n):PN n (kas_rev p 0 m):=by
 have ha:=BM (p:=p) (m:=m) (by rw[P.sz];exact hm)
 refine⟨(mirror_size ..).trans P.sz,fun i hi=>?_,fun i j hi hj e=>?_⟩
 ·rw[ha]
  split
  ·exact P.lt _ (by omega)
  ·exact P.lt _ hi
 ·rw[ha,ha] at e
  split at e<;>split at e
  ·have:=P.inj _ _ (by omega) (by omega) e;omega
  ·have:=P.inj _ _ (by omega) hj e;omega
  ·have:=P.inj _ _ hi (by omega) e;omega
  ·exact P.inj _ _ hi hj e
theorem PN.bub{p:Array Nat}(P:PN n p){k l:Nat}(hk:k<n)(hl:l≤k):PN n (bubble p k (k - l)):=by
 have ha:=zK (p:=p) (k:=k) (l:=l) (by rw[P.sz];exact hk) hl
 refine⟨(bubble_size ..).trans P.sz,fun i hi=>?_,fun i j hi hj e=>?_⟩
 ·rw[ha]
  split
  ·exact P.lt _ hk
  ·split
   ·exact P.lt _ (by omega)
   ·exact P.lt _ hi
 ·rw[ha,ha] at e
  split at e
  ·split at e
   ·omega
   ·split at e
    ·have:=P.inj _ _ hk (by omega) e;omega
    ·have:=P.inj _ _ hk hj e;omega
  ·split at e
   ·split at e
    ·have:=P.inj _ _ (by omega) hk e;omega
    ·split at e
     ·have:=P.inj _ _ (by omega) (by omega) e;omega
     ·have:=P.inj _ _ (by omega) hj e;omega
   ·split at e
    ·have:=P.inj _ _ hi hk e;omega
    ·split at e
     ·have:=P.inj _ _ hi (by omega) e;omega
     ·exact P.inj _ _ hi hj e
theorem Fa.rev{p:Array Nat}(P:PN n p){m:Nat}(hm:m≤n)(h:Fa b p m):Ri b (kas_rev p 0 m) m:=fun i j tU hj=>by
 have ha:=BM (p:=p) (m:=m) (by rw[P.sz];exact hm)
 rw[ha,ha,if_pos (by omega),if_pos hj]
 exact h _ _ (by omega) (by omega)
variable(L:Lt n b)
include L
theorem B7{p:Array Nat}(P:PN n p){m:Nat}(h1:1≤m)(hm:m≤n)(h:Fa b p m):∃k q,c6 b (kas_tail3 m n p)=(k,q)∧PN n q∧1≤k∧k≤n∧Ri b q k:=by
 unfold kas_tail3
 rw[eR]
 obtain⟨a1,a2,a3,_⟩:=qO L (P.rev hm) (n - m) m h1 (by omega) (Fa.rev P hm h)
 exact⟨_,_,rfl,P.rev hm,by omega,by omega,a3⟩
theorem yo{p:Array Nat}(P:PN n p)(h2:2≤n):∃k q,c6 b (kas_count n p)=(k,q)∧PN n q∧1≤k∧k≤n∧Ri b q k:=by
 unfold kas_count
 rw[eR]
 obtain⟨a1,a2,a3,a4⟩:=qO L P (n - 1) 1 (Nat.le_refl _) (by omega) (fun i j tU hj=>by omega)
 generalize c6 b (kas_asc p (n - 1) 1)=m at a1 a2 a3 a4
 by_cases he:m=n
 ·subst he
  rw[if_pos (by simp)]
  exact⟨m,p,rfl,P,by omega,Nat.le_refl _,a3⟩
 ·rw[if_neg (by simpa using he)]
  by_cases hg:m>1
  ·rw[if_pos hg]
   have hb:b (p.getD 0 0) (p.getD (m - 1) 0)=true:=a3 0 (m - 1) (by omega) (by omega)
   show∃k q,c6 b (if b (p.getD 0 0) (p.getD (m - 1) 0)=true then KasT.ret (m,p) else kas_descPart m n (kas_rev p 0 m))=(k,q)∧_
   rw[if_pos hb]
   exact⟨m,p,rfl,P,by omega,by omega,a3⟩
  ·rw[if_neg hg]
   have hm:m=1:=by omega
   subst hm
   have hb:=a4 (by omega)
   unfold kas_descPart
   rw[eR]
   obtain⟨m,e1,e2,e3,e4⟩:=tG L P (n - (1+1)) (1+1) (by omega) (by omega) (fun i j tU hj=>by
    have hi:i=0:=by omega
    have hj:j=1:=by omega
    subst hi hj
    exact hb)
   rw[e1]
   dsimp only
   rw[if_neg (by omega)]
   exact B7 L P (by omega) (by omega) e4
theorem kT{p:Array Nat}(P:PN n p){k:Nat}(hk:k<n)(h:Ri b p k):∀(f l r:Nat),l≤r→r≤k→r - l≤f→(∀i,i<l→b (at' p i) (at' p k)=true)→(∀i,r≤i→i<k→b (at' p k) (at' p i)=true)→
 c6 b (kas_place p k f l r)≤k∧(∀i,i<c6 b (kas_place p k f l r)→b (at' p i) (at' p k)=true)∧∀i,c6 b (kas_place p k f l r)≤i→i<k→b (at' p k) (at' p i)=true
 |0,l,r,h1,h2,h3,h4,h5=>by
  have:r=l:=by omega
  subst this
  exact⟨h2,h4,h5⟩
 |f+1,l,r,h1,h2,h3,h4,h5=>by
  unfold kas_place
  by_cases MK:l≥r
  ·rw[if_pos MK]
   have:r=l:=by omega
   subst this
   exact⟨h2,h4,h5⟩
  ·rw[if_neg MK]
   have hm:(l+r) / 2<r:=by omega
   have Ik:l≤(l+r) / 2:=by omega
   show c6 b (if b (at' p k) (at' p ((l+r) / 2))=true then kas_place p k f l ((l+r) / 2) else kas_place p k f ((l+r) / 2+1) r)≤k∧(∀i,i<c6 b (if b (at' p k) (at' p ((l+r) / 2))=true then kas_place p k f l ((l+r) / 2) else kas_place p k f ((l+r) / 2+1) r)→_)∧∀i,c6 b (if b (at' p k) (at' p ((l+r) / 2))=true then kas_place p k f l ((l+r) / 2) else kas_place p k f ((l+r) / 2+1) r)≤i→_
   by_cases hb:b (at' p k) (at' p ((l+r) / 2))=true
   ·rw[if_pos hb]
    refine kT P hk h f l ((l+r) / 2) Ik (by omega) (by omega) h4 fun i hi NS=>?_
    by_cases e:i=(l+r) / 2
    ·rw[e];exact hb
    ·exact L.tr _ _ _ hb (h _ _ (by omega) NS)
   ·rw[if_neg hb]
    have hr:b (at' p ((l+r) / 2)) (at' p k)=true:=by
     rcases L.tot (at' p ((l+r) / 2)) (at' p k) (P.lt _ (by omega)) (P.lt _ hk) (fun z=>by have:=P.inj _ _ (by omega) hk z;omega) with q | q
     ·exact q
     ·exact absurd q hb
    refine kT P hk h f ((l+r) / 2+1) r (by omega) h2 (by omega) (fun i hi=>?_) h5
    by_cases e:i=(l+r) / 2
    ·rw[e];exact hr
    ·exact L.tr _ _ _ (h i ((l+r) / 2) (by omega) (by omega)) hr
theorem xb:∀(f:Nat) {p:Array Nat}{k:Nat},PN n p→k+f≤n→Ri b p k→PN n (c6 b (kas_bin f p k))∧Ri b (c6 b (kas_bin f p k)) (k+f)
 |0,p,k,P,_,h=>⟨P,h⟩
 |f+1,p,k,P,hn,h=>by
  have hk:k<n:=by omega
  unfold kas_bin
  rw[eR]
  obtain⟨a1,a2,a3⟩:=kT L P hk h k 0 k (Nat.zero_le _) (Nat.le_refl _) (by omega) (fun i hi=>by omega) (fun i h1 h2=>by omega)
  generalize c6 b (kas_place p k k 0 k)=l at a1 a2 a3
  have ha:=zK (p:=p) (k:=k) (l:=l) (by rw[P.sz];exact hk) a1
  have hR:Ri b (bubble p k (k - l)) (k+1):=fun i j tU hj=>by
   rw[ha,ha]
   by_cases c1:i=l
   ·rw[if_pos c1,if_neg (by omega),if_pos ⟨by omega,by omega⟩]
    exact a3 _ (by omega) (by omega)
   ·rw[if_neg c1]
    by_cases c2:j=l
    ·rw[if_pos c2,if_neg (by omega)]
     exact a2 _ (by omega)
    ·rw[if_neg c2]
     by_cases c3:l<i∧i≤k
     ·rw[if_pos c3,if_pos ⟨by omega,by omega⟩]
      exact h _ _ (by omega) (by omega)
     ·rw[if_neg c3]
      by_cases c4:l<j∧j≤k
      ·rw[if_pos c4]
       exact h _ _ (by omega) (by omega)
      ·rw[if_neg c4]
       exact h _ _ tU (by omega)
  have:=xb f (P.bub hk a1) (by omega) hR
  rw[show k+(f+1)=k+1+f by omega]
  exact this
theorem BW(h2:2≤n):PN n (c6 b (kas_sort n))∧Ri b (c6 b (kas_sort n)) n:=by
 have P0:PN n (List.toArray (List.range n)):=by
  have e:∀i,i<n→at' (List.toArray (List.range n)) i=i:=fun i hi=>by rw[eD];simp[hi]
  exact⟨by simp,fun i hi=>by rw[e i hi];exact hi,fun i j hi hj z=>by rw[e i hi,e j hj] at z;exact z⟩
 unfold kas_sort
 rw[eR]
 obtain⟨k,q,e,P,k1,kn,hR⟩:=yo L P0 h2
 rw[e]
 dsimp only
 by_cases eZ:k<n
 ·rw[if_pos eZ]
  have:=xb L (n - max k 1) (k:=max k 1) P (by omega) (by rw[show max k 1=k by omega];exact hR)
  rw[show max k 1+(n - max k 1)=n by omega] at this
  exact this
 ·rw[if_neg eZ]
  have:k=n:=by omega
  subst this
  exact⟨P,hR⟩
end
def Asks{α:Type}(n:Nat)(P:α→Prop):KasT α→Prop
 | .ret a=>P a
 | .ask i j k=>i<n∧j<n∧∀c,Asks n P (k c)
theorem Asks.bind{α β:Type}{n:Nat}{P:α→Prop}{Q:β→Prop}{f:α→KasT β}:∀{t:KasT α},Asks n P t→(∀a,P a→Asks n Q (f a))→Asks n Q (t.bind f)
 | .ret a,h,hf=>hf a h
 | .ask i j k,h,hf=>⟨h.1,h.2.1,fun c=>Asks.bind (h.2.2 c) hf⟩
theorem wp_run{α:Type}{n:Nat}{P:α→Prop}{b:Nat→Nat→Bool}{cmp:Nat→Nat→(Bool→Shared→Prop)→Shared→Prop}{Q:α→Shared→Prop}{s:Shared}(hc:∀i j C,i<n→j<n→C (b i j) s→cmp i j C s):∀{t:KasT α},Asks n P t→Q (c6 b t) s→t.kasWp cmp Q s
 | .ret a,_,h=>h
 | .ask i j k,ha,h=>hc i j _ ha.1 ha.2.1 (wp_run hc (ha.2.2 _) h)
def Below(n:Nat)(p:Array Nat):Prop:=∀x∈p,x<n
section
variable{n:Nat}(hn:0<n)
include hn
theorem Below.at{p:Array Nat}(h:Below n p)(i:Nat):at' p i<n:=by
 rw[eD]
 cases e:p[i]? with
 |none=>exact hn
 |some x=>exact h x (Array.mem_of_getElem? e)
theorem Below.rev{p:Array Nat}(h:Below n p)(i j:Nat):Below n (kas_rev p i j):=fun x hx=>h x ((mirror_perm p i j ((j - i) / 2)).mem_iff.mp hx)
theorem Below.bub{p:Array Nat}(h:Below n p)(k d:Nat):Below n (bubble p k d):=fun x hx=>h x ((bubble_perm p k d).mem_iff.mp hx)
theorem mX{p:Array Nat}(h:Below n p):∀f k,Asks n (fun _=>True) (kas_asc p f k)
 |0,k=>trivial
 |f+1,k=>⟨Below.at hn h _,Below.at hn h _,fun c=>by
  show Asks n _ (if c=true then KasT.ret k else kas_asc p f (k+1))
  cases c
  ·exact mX h f (k+1)
  ·exact trivial⟩
theorem iJ:∀f {p:Array Nat} k q,Below n p→Asks n (fun r=>Below n r.1) (kas_desc f p k q)
 |0,p,k,q,h=>h
 |f+1,p,k,q,h=>⟨Below.at hn h _,Below.at hn h _,fun c=>by
  cases c
  ·refine⟨Below.at hn h _,Below.at hn h _,fun d=>?_⟩
   cases d
   ·exact iJ f _ _ h
   ·exact h
  ·show Asks n _ (if q>0 then kas_desc f (kas_rev p (k - (q+1)) k) (k+1) 0 else kas_desc f p (k+1) 0)
   split
   ·exact iJ f _ _ (Below.rev hn h _ _)
   ·exact iJ f _ _ h⟩
theorem pI{p:Array Nat}(h:Below n p)(m r:Nat):Asks n (fun x=>Below n x.2) (kas_tail3 m r p):=Asks.bind (mX hn (Below.rev hn h 0 m) _ _) fun _ _=>Below.rev hn h 0 m
theorem mY{p:Array Nat}(h:Below n p)(m r:Nat):Asks n (fun x=>Below n x.2) (kas_descPart m r p):=Asks.bind (iJ hn _ _ _ h) fun x hx=>by
 split
 ·exact pI hn (Below.rev hn hx _ _) _ _
 ·exact pI hn hx _ _
theorem vp{p:Array Nat}(h:Below n p)(r:Nat):Asks n (fun x=>Below n x.2) (kas_count r p):=Asks.bind (mX hn h _ _) fun m _=>by
 split
 ·exact h
 ·split
  ·refine⟨Below.at hn h _,Below.at hn h _,fun c=>?_⟩
   cases c
   ·exact mY hn (Below.rev hn h _ _) _ _
   ·exact h
  ·exact mY hn h _ _
theorem jk{p:Array Nat}(h:Below n p)(k:Nat):∀f l r,Asks n (fun _=>True) (kas_place p k f l r)
 |0,l,r=>trivial
 |f+1,l,r=>by
  unfold kas_place
  split
  ·exact trivial
  ·refine⟨Below.at hn h _,Below.at hn h _,fun c=>?_⟩
   cases c
   ·exact jk h k f _ _
   ·exact jk h k f _ _
theorem s8:∀f {p:Array Nat} k,Below n p→Asks n (fun _=>True) (kas_bin f p k)
 |0,p,k,h=>trivial
 |f+1,p,k,h=>Asks.bind (jk hn h k _ _ _) fun l _=>s8 f _ (Below.bub hn h _ _)
theorem yb:Asks n (fun _=>True) (kas_sort n):=by
 have h0:Below n (List.toArray (List.range n)):=fun x hx=>by simpa using hx
 refine Asks.bind (vp hn h0 n) fun x hx=>?_
 split
 ·exact s8 hn _ _ hx
 ·exact trivial
end
def d6:List Int→List Int→Bool
 |[],[]=>false
 |[],_::_=>true
 |_::_,[]=>false
 |x::xs,y::ys=>if x=y then d6 xs ys else decide (x<y)
theorem rA:∀a b c:List Int,d6 a b=true→d6 b c=true→d6 a c=true
 |[],[],_,h,_=>by cases h
 |[],_::_,[],_,h=>by cases h
 |[],_::_,_::_,_,_=>rfl
 |_::_,[],_,h,_=>by cases h
 |_::_,_::_,[],_,h=>by cases h
 |x::a,y::b,z::c,h1,h2=>by
  unfold d6 at h1 h2⊢
  by_cases e1:x=y
  ·subst e1
   rw[if_pos rfl] at h1
   by_cases e2:x=z
   ·subst e2
    rw[if_pos rfl] at h2⊢
    exact rA a b c h1 h2
   ·rw[if_neg e2] at h2⊢
    exact h2
  ·rw[if_neg e1] at h1
   have h1:=of_decide_eq_true h1
   by_cases e2:y=z
   ·subst e2
    rw[if_neg e1]
    exact decide_eq_true h1
   ·rw[if_neg e2] at h2
    have h2:=of_decide_eq_true h2
    rw[if_neg (by omega)]
    exact decide_eq_true (by omega)
theorem jR:∀a b:List Int,d6 a b=true→d6 b a=false
 |[],[],h=>by cases h
 |[],_::_,_=>rfl
 |_::_,[],h=>by cases h
 |x::a,y::b,h=>by
  unfold d6 at h⊢
  by_cases e:x=y
  ·subst e
   rw[if_pos rfl] at h⊢
   exact jR a b h
  ·rw[if_neg e] at h
   have h:=of_decide_eq_true h
   rw[if_neg (fun z=>e z.symm)]
   exact decide_eq_false (by omega)
theorem nM:∀a b:List Int,a≠b→d6 a b=true∨d6 b a=true
 |[],[],h=>absurd rfl h
 |[],_::_,_=> .inl rfl
 |_::_,[],_=> .inr rfl
 |x::a,y::b,h=>by
  unfold d6
  by_cases e:x=y
  ·subst e
   rw[if_pos rfl,if_pos rfl]
   exact nM a b fun z=>h (by rw[z])
  ·rw[if_neg e,if_neg (fun z=>e z.symm)]
   by_cases q:x<y
   ·exact .inl (decide_eq_true q)
   ·exact .inr (decide_eq_true (by omega))
section
variable{prog:Program}{w:World}{A:Around}{E:Value→Shared→Prop}{s:Shared}
theorem t8{Q:Bool→Shared→Prop}:∀{us vs:List Value}{xs ys:List Int}(i:Nat) {fin:Bool},IntsAre us xs→IntsAre vs ys→fin=decide (xs.length<ys.length)→Q (d6 xs ys) s→KatLex prog w A true fin Q (us.zip vs) i s
 |_,_,_,_,i,_, .nil, .nil,e,h=>by subst e;exact kat_nil h
 |_,_,_,_,i,_, .nil, .cons y t r,e,h=>by subst e;exact kat_nil h
 |_,_,_,_,i,_, .cons x t r, .nil,e,h=>by subst e;exact kat_nil h
 |_,_,_,_,i,_, .cons (vs:=us) (ns:=xs) x t r, .cons (vs:=vs) (ns:=ys) y u r',e,h=>by
  refine kat_cons (wpAny_eqBool_int ?_)
  by_cases q:x=y
  ·subst q
   rw[show (x==x)=true by simp]
   refine kat_yes (t8 (i+1) r r' (by rw[e];simp) ?_)
   unfold d6 at h
   rw[if_pos rfl] at h
   exact h
  ·rw[show (x==y)=false by simpa using q]
   unfold d6 at h
   rw[if_neg q] at h
   refine kat_no ?_
   by_cases hi:(i==0)=true
   ·rw[hi]
    exact oneLt_int h
   ·rw[show (i==0)=false by simpa using hi]
    exact kat_one _ _ (PyProof.Rows.lt_int h)
def TupsAt(h:Heap):List Value→List (List Int)→Prop
 |[],[]=>True
 |v::vs,k::ks=>(∃a o us m,v= .ref a∧h.get? a=some o∧o.cls= .type "tuple"∧o.data= .seq (List.toArray us) m∧IntsAre us k∧k≠[])∧TupsAt h vs ks
 |_,_=>False
theorem TupsAt.len{h:Heap}:∀{vs:List Value}{ks:List (List Int)},TupsAt h vs ks→vs.length=ks.length
 |[],[],_=>rfl
 |v::vs,k::ks,t=>by rw[List.length_cons,List.length_cons,TupsAt.len t.2]
 |[],_::_,t=>t.elim
 |_::_,[],t=>t.elim
theorem TupsAt.get{h:Heap}:∀{vs:List Value}{ks:List (List Int)}{i:Nat},TupsAt h vs ks→i<vs.length→∃a o us m,vs.getD i Value.none= .ref a∧h.get? a=some o∧o.cls= .type "tuple"∧o.data= .seq (List.toArray us) m∧IntsAre us (ks.getD i [])∧ks.getD i []≠[]
 |v::vs,k::ks,0,t,_=>t.1
 |v::vs,k::ks,i+1,t,hi=>TupsAt.get (i:=i) t.2 (by simpa using hi)
 |[],_,_,_,hi=>by simp at hi
 |_::_,[],_,t,_=>t.elim
theorem TupsAt.keep{h h':Heap}{a:Addr}(k:∀b o,b≠a→h.get? b=some o→h'.get? b=some o)(ha:∀o,h.get? a=some o→o.cls≠ .type "tuple"):∀{vs:List Value}{ks:List (List Int)},TupsAt h vs ks→TupsAt h' vs ks
 |[],[],_=>trivial
 |v::vs,x::ks,⟨⟨b,o,us,m,e1,e2,e3,e4⟩,t⟩=>⟨⟨b,o,us,m,e1,k b o (fun z=>ha o (by rw[←z];exact e2) e3) e2,e3,e4⟩,TupsAt.keep k ha t⟩
 |[],_::_,t=>t.elim
 |_::_,[],t=>t.elim
theorem nz:∀{us:List Value}{xs:List Int},IntsAre us xs→us.length=xs.length
 |_,_, .nil=>rfl
 |_,_, .cons x t r=>by rw[List.length_cons,List.length_cons,nz r]
theorem TupsAt.firsts{M:Model}{h:Heap}:∀{vs:List Value}{ks:List (List Int)},TupsAt h vs ks→∃fs,KatTups h vs fs∧fs.length=vs.length∧∀v∈fs,Looks M h (typeOf v) (.type "int")
 |[],[],_=>⟨[],KatTups.nil,rfl,fun _ z=>by cases z⟩
 |v::vs,k::ks,⟨⟨a,o,us,m,e1,e2,e3,e4,e5,e6⟩,t⟩=>by
  obtain⟨fs,q1,q2,q3⟩:=TupsAt.firsts (M:=M) t
  subst e1
  cases e5 with
  |nil=>exact absurd rfl e6
  |cons x t r=>
   refine⟨.int x t::fs,KatTups.cons e2 e3 e4 (by simp) q1,by simp[q2],fun v hv=>?_⟩
   rcases List.mem_cons.mp hv with rfl | hv
   ·exact show Looks M h (pure (Value.type "int")) (Value.type "int") from .now
   ·exact q3 v hv
 |[],_::_,t=>t.elim
 |_::_,[],t=>t.elim
theorem asked{vs:List Value}{ks:List (List Int)}(t:TupsAt s.heap vs ks)(i j:Nat)(C:Bool→Shared→Prop)(hi:i<vs.length)(hj:j<vs.length)(h:C (d6 (ks.getD i []) (ks.getD j [])) s):kas_ask prog w A (tuples' true) vs i j C s:=by
 obtain⟨a,o,us,m,e1,e2,_,e4,e5,_⟩:=t.get hi
 obtain⟨a',o',Pc,m',zC,Ha,_,Ni,Mi,_⟩:=t.get hj
 unfold kas_ask
 rw[e1,zC]
 refine kat_lt e2 e4 Ha Ni (t8 0 e5 Mi ?_ h)
 rw[List.size_toArray,List.size_toArray,nz e5,nz Mi]
theorem AX{α:Type}{l:List α}(h:l.Nodup){i j:Nat}(hi:i<l.length)(hj:j<l.length)(e:l[i]=l[j]):i=j:=by
 rcases Nat.lt_trichotomy i j with q | q | q
 ·exact absurd e (List.pairwise_iff_getElem.mp h i j hi hj q)
 ·exact q
 ·exact absurd e.symm (List.pairwise_iff_getElem.mp h j i hj hi q)
theorem zo{a:Addr}{c:Nat}{vs:List Value}{ks:List (List Int)}{P:PySem.Fin→Shared→Prop}(ho:s.heap.get? a=some (seqObj "list" vs.toArray c))(ht:TupsAt s.heap vs ks)(hd:ks.Nodup)(KD:vs.length<64)
 (h:∀(p:Array Nat) (h':Heap) (c':Nat),PN vs.length p→Ri (fun i j=>d6 (ks.getD i []) (ks.getD j [])) p vs.length→h'.get? a=some (seqObj "list" (List.toArray (p.toList.map fun i=>vs.getD i Value.none)) c')→
  (∀b o,b≠a→s.heap.get? b=some o→h'.get? b=some o)→P (.done (.ret .none)) {s with heap:=h'}):wpAny (model prog w) A (Builtin.«list.sort» ⟨[.ref a],[]⟩) P E s:=by
 have Av:sizeLine=16777216:=sizeLine_eq
 have s1:=Heap.SameBut.update s.heap a (Obj.mapSeq fun _=>(#[]:Array Value))
 obtain⟨e1,ML⟩:∃e1,(s.heap.update a (Obj.mapSeq fun _=>(#[]:Array Value))).get? a=some (seqObj "list" #[] e1):=⟨_,get?_update_seq ho fun _=> #[]⟩
 have k1:∀b o,b≠a→s.heap.get? b=some o→(((s.heap.update a (Obj.mapSeq fun _=>(#[]:Array Value))).push (seqObj "tuple" vs.toArray 0)).push (seqObj "list" #[] 0)).get? b=some o:=fun b o hb e=>
  Heap.get?_push_of_some _ (Heap.get?_push_of_some _ ((s1.2 b hb).trans e))
 have Lc:=Heap.get?_push_of_some (seqObj "list" #[] 0) (Heap.get?_push_of_some (seqObj "tuple" vs.toArray 0) ML)
 have t3:=ht.keep k1 (fun o e z=>by rw[ho] at e;cases e;exact absurd (Value.type.inj z) (by decide))
 have fin:∀(st:SortSt) (p:Array Nat),PN vs.length p→Ri (fun i j=>d6 (ks.getD i []) (ks.getD j [])) p vs.length→(arrOf st).map (·.2)=List.toArray (p.toList.map fun i=>vs.getD i Value.none)→failedOf st=none→
  wpAny (model prog w) A (do
   let touched:=(←seqEpoch a) !=e1
   Builtin.List.listUpdate (.ref a) fun _=>(arrOf st).map (·.2)
   if let some e:=failedOf st then rule "list.sort.comparison-raised";throw e
   if touched then rule "list.sort.modified";raiseError "ValueError" "list modified during sort"
   ret .none) P E {s with heap:=((s.heap.update a (Obj.mapSeq fun _=>(#[]:Array Value))).push (seqObj "tuple" vs.toArray 0)).push (seqObj "list" #[] 0)}:=fun st p hp hr he hf=>by
  have hz:(List.toArray (p.toList.map fun i=>vs.getD i Value.none)).size=vs.length:=by rw[List.size_toArray,List.length_map,Array.length_toList,hp.sz]
  rw[he,hf]
  refine wpAny_bind (seqEpoch_at Lc rfl (wpAny_bind (listUpdate_at Lc rfl ?_ (Nat.zero_le _) (by rw[hz,Av];omega))))
  simp only[bne_self_eq_false,Bool.false_eq_true,if_false]
  have s2:=Heap.SameBut.update (((s.heap.update a (Obj.mapSeq fun _=>(#[]:Array Value))).push (seqObj "tuple" vs.toArray 0)).push (seqObj "list" #[] 0)) a (Obj.mapSeq fun _=>List.toArray (p.toList.map fun i=>vs.getD i Value.none))
  exact wpAny_pure (h p _ _ hp hr (get?_update_seq Lc fun _=>List.toArray (p.toList.map fun i=>vs.getD i Value.none)) fun b o hb e=>(s2.2 b hb).trans (k1 b o hb e))
 rw[list_sort_plain]
 refine wpAny_bind (listItems_at ho rfl (wpAny_bind (listUpdate_at ho rfl (wpAny_bind (seqEpoch_at ML rfl ?_)) (by rw[List.size_toArray,Av];omega) (Nat.zero_le _))))
 refine wpAny_bind (wpAny_newTuple (wpAny_bind (wpAny_newList (wpAny_holding ?_) (Nat.zero_le _))) (by show vs.length≤_;rw[Av];omega))
 show wpAny (model prog w) A _ P E {s with heap:=((s.heap.update a (Obj.mapSeq fun _=>(#[]:Array Value))).push (seqObj "tuple" vs.toArray 0)).push (seqObj "list" #[] 0)}
 dsimp only
 by_cases hs:vs.toArray.size<2
 ·rw[if_pos hs,if_pos hs]
  have FD:vs.length<2:=by simpa using hs
  refine wpAny_bind (wpAny_pure (wpAny_bind (wpAny_pure ?_)))
  refine fin (SortSt.mk' general' (vs.toArray.zip vs.toArray) #[] 7 none) (List.toArray (List.range vs.length)) ⟨by simp,fun i hi=>?_,fun i j hi hj _=>by omega⟩ (fun i j tU hj=>by omega) ?_ rfl
  ·rw[eD];simp[hi]
  ·show (vs.toArray.zip vs.toArray).map (·.2)=_
   apply Array.toList_inj.mp
   refine List.ext_getElem (by simp) fun i a1 a2=>?_
   simp at a1
   simp[a1]
 ·rw[if_neg hs,if_neg hs]
  have FD:2≤vs.length:=by
   have:¬vs.length<2:=by simpa using hs
   omega
  obtain⟨fs,q1,q2,q3⟩:=t3.firsts (M:=model prog w)
  refine wpAny_bind (kat_kind q1 (by omega) q3 rfl ?_)
  have hb:Lt vs.length (fun i j=>d6 (ks.getD i []) (ks.getD j [])):=⟨fun i j k=>rA _ _ _,fun i j=>jR _ _,fun i j hi hj tU=>nM _ _ fun z=>tU (by
   rw[ht.len] at hi hj
   rw[List.getD_eq_getElem?_getD,List.getD_eq_getElem?_getD,List.getElem?_eq_getElem hi,List.getElem?_eq_getElem hj] at z
   exact AX hd hi hj (by simpa using z))⟩
  obtain⟨r1,r2⟩:=BW hb FD
  have run:=kat_run (prog:=prog) (w:=w) (A:=A) (E:=E) (ks:=vs) (vs:=vs) (κ:=tuples' true) (Q:=fun st s'=>s'={s with heap:=((s.heap.update a (Obj.mapSeq fun _=>(#[]:Array Value))).push (seqObj "tuple" vs.toArray 0)).push (seqObj "list" #[] 0)}∧∃p,PN vs.length p∧Ri (fun i j=>d6 (ks.getD i []) (ks.getD j [])) p vs.length∧(arrOf st).map (·.2)=List.toArray (p.toList.map fun i=>vs.getD i Value.none)∧failedOf st=none)
   (G:=fun p s'=>s'={s with heap:=((s.heap.update a (Obj.mapSeq fun _=>(#[]:Array Value))).push (seqObj "tuple" vs.toArray 0)).push (seqObj "list" #[] 0)}∧PN vs.length p∧Ri (fun i j=>d6 (ks.getD i []) (ks.getD j [])) p vs.length) rfl FD KD
   (fun p oM s' a1 a2 a3 a4=>⟨a4.1,p,a4.2.1,a4.2.2,kat_snds rfl a2,a3⟩)
   (wp_run (s:={s with heap:=((s.heap.update a (Obj.mapSeq fun _=>(#[]:Array Value))).push (seqObj "tuple" vs.toArray 0)).push (seqObj "list" #[] 0)}) (fun i j C hi hj hC=>asked t3 i j C hi hj hC) (yb (by omega)) ⟨rfl,r1,r2⟩)
  refine wpAny_bind (wpAny_mono run ?_ fun _ _ e=>e)
  rintro⟨⟨⟩,oM⟩ s' ⟨rfl,p,a1,a2,a3,a4⟩
  exact fin oM p a1 a2 a3 a4
end
section
variable{prog:Program}{w:World}{A:Around}{E:Value→Shared→Prop}{s:Shared}
theorem p6{d:Addr}{od:Obj}{es:Array DictEntry}{ep:Nat}{Q:Value→Shared→Prop}(lo:(d==sysModules)=false)(ho:s.heap.get? d=some od)(hx:od.ExactDict)(hd:od.data= .dict es ep)
 (hQ:Q (.ref s.heap.objs.size) {s with heap:=s.heap.push {cls:= .type "dict_keyiterator",data:= .fields #[.ref d, .int 0 0, .int es.size 0, .int ep 0]} }):wpAny (model prog w) A (pyIter (.ref d)) Q E s:=by
 have hT:s.TypeIs (.ref d) "dict":=⟨od,ho,hx.1⟩
 refine wpAny_pyIter_slot hT F.slot_dict_iter (wpAny_call_entry F.slot_dict_iter hT F.entry_dict_iter ?_ (F.args_dict_iter_1 _))
 unfold Builtin.«dict.__iter__» Builtin.Dict.dictSlotNone
 refine wpAny_bind (wpAny_bind (wpAny_notOrdered_dict hT ?_))
 show wpAny _ _ (pure (Value.ref d)) _ _ s
 refine wpAny_pure ?_
 show wpAny _ _ (Builtin.Dict.showsAll d>>=_) _ _ s
 unfold Builtin.Dict.showsAll
 rw[if_neg (by rw[lo];exact Bool.false_ne_true)]
 refine wpAny_bind (wpAny_pure (wpAny_bind (wpAny_dictEntries ho hd (wpAny_bind (wpAny_dictEpoch ho hd ?_)))))
 refine wpAny_bind (wpAny_newObj_type (wpAny_pure ⟨_,rfl,"dict_keyiterator",_,⟨_,Heap.get?_push_size _ rfl,rfl⟩,F.slot_dict_keyiterator_next.lookup,?_⟩))
 simpa[rawInt] using hQ
theorem ud{it d:Addr}{od:Obj}{es:Array DictEntry}{i ep:Nat}{e:DictEntry}{Q:Option Value→Shared→Prop}(hit:s.heap.IsKeyIter it d i es.size ep)(rk:s.heap.get? d=some od)(gR:od.data= .dict es ep)(hx:es[i]? =some e)
 (hQ:∀h',h'.IsKeyIter it d (i+1) es.size ep→Heap.SameBut it s.heap h'→Q (some e.key) {s with heap:=h'}):wpAny (model prog w) A (pyNext (.ref it)) Q E s:=by
 obtain⟨o,ho,hc,hd⟩:=id hit
 have eZ:i<es.size:=(Array.getElem?_eq_some_iff.mp hx).1
 have rl:Builtin.Dict_items.ownsTuple "dict_keyiterator"=false:=by decide
 unfold pyNext
 refine wpAny_bind (wpAny_attempt (wpAny_callSpecial?_slot (name:=Str.ofString "__next__") hit.typeIs F.slot_dict_keyiterator_next
  (wpAny_call_entry F.slot_dict_keyiterator_next hit.typeIs F.entry_dict_keyiterator_next ?_ (F.args_dict_keyiterator_next_1 _))))
 refine wpAny_bind (wpAny_pure (wpAny_bind (wpAny_bind ?_)))
 first | refine wpAny_bind (wpAny_typeNameOfWhole_keyiter hit.typeIs (wpAny_pure ?_)) | refine wpAny_bind (wpAny_typeNameOf_keyiter hit.typeIs (wpAny_pure ?_))
 refine wpAny_bind (wpAny_fieldsOf ho hd ?_)
 simp only[rl,Bool.false_eq_true,if_false]
 show wpAny _ _ (if (Value.ref d==Value.none)=true then _ else _) _ _ s
 rw[if_neg (show¬((Value.ref d==Value.none)=true) from Bool.false_ne_true)]
 refine wpAny_bind (wpAny_pure (wpAny_bind (wpAny_dictEntries rk gR ?_)))
 rw[if_neg (by simp)]
 refine wpAny_bind (wpAny_pure (wpAny_bind (wpAny_dictEpoch rk gR ?_)))
 rw[if_neg (by simp)]
 refine wpAny_pure ?_
 simp only[show¬((i:Int)<0) from by omega,if_false,Int.toNat_natCast,hx]
 refine wpAny_bind ?_
 first | refine wpAny_bind (wpAny_typeNameOfWhole_keyiter hit.typeIs (wpAny_pure ?_)) | refine wpAny_bind (wpAny_typeNameOf_keyiter hit.typeIs (wpAny_pure ?_))
 refine wpAny_bind (wpAny_isOneOf_keyiter hit.typeIs ?_)
 show wpAny _ _ (setField (.ref it) 1 (rawInt ((i:Int)+1))>>=_) _ _ s
 refine wpAny_bind (wpAny_setField ho hd (by simp) ?_)
 have CN:(s.heap.update it (Obj.mapFields (·.setIfInBounds 1 (rawInt ((i:Int)+1))))).IsKeyIter it d (i+1) es.size ep:=
  ⟨_,Heap.get?_update_self _ ho (Obj.isFreed_of_fields (Obj.data_mapFields hd _)),(Obj.cls_mapFields ..).trans hc,by rw[Obj.data_mapFields hd];simp[rawInt]⟩
 refine wpAny_bind (wpAny_holding (wpAny_bind (wpAny_isOneOf_keyiter (s:={s with heap:=s.heap.update it (Obj.mapFields (·.setIfInBounds 1 (rawInt ((i:Int)+1))))}) CN.typeIs ?_)))
 show wpAny _ _ (pure e.key) _ _ _
 exact wpAny_pure (wpAny_pure ⟨_,rfl,wpAny_pure (hQ _ CN (Heap.SameBut.update ..))⟩)
theorem pR{it d:Addr}{od:Obj}{es:Array DictEntry}{ep i:Nat}{Q:Option Value→Shared→Prop}(hh:A.handled=none)(hit:s.heap.IsKeyIter it d i es.size ep)(hi:es.size≤i)(rk:s.heap.get? d=some od)(gR:od.data= .dict es ep)
 (hQ:∀h',Heap.ExtBut it s.heap h'→Q none {s with heap:=h'}):wpAny (model prog w) A (pyNext (.ref it)) Q E s:=by
 obtain⟨o,ho,hc,hd⟩:=id hit
 have rl:Builtin.Dict_items.ownsTuple "dict_keyiterator"=false:=by decide
 unfold pyNext
 refine wpAny_bind (wpAny_attempt (wpAny_callSpecial?_slot (name:=Str.ofString "__next__") hit.typeIs F.slot_dict_keyiterator_next
  (wpAny_call_entry F.slot_dict_keyiterator_next hit.typeIs F.entry_dict_keyiterator_next ?_ (F.args_dict_keyiterator_next_1 _))))
 refine wpAny_bind (wpAny_pure (wpAny_bind (wpAny_bind ?_)))
 first | refine wpAny_bind (wpAny_typeNameOfWhole_keyiter hit.typeIs (wpAny_pure ?_)) | refine wpAny_bind (wpAny_typeNameOf_keyiter hit.typeIs (wpAny_pure ?_))
 refine wpAny_bind (wpAny_fieldsOf ho hd ?_)
 simp only[rl,Bool.false_eq_true,if_false]
 show wpAny _ _ (if (Value.ref d==Value.none)=true then _ else _) _ _ s
 rw[if_neg (show¬((Value.ref d==Value.none)=true) from Bool.false_ne_true)]
 refine wpAny_bind (wpAny_pure (wpAny_bind (wpAny_dictEntries rk gR ?_)))
 rw[if_neg (by simp)]
 refine wpAny_bind (wpAny_pure (wpAny_bind (wpAny_dictEpoch rk gR ?_)))
 rw[if_neg (by simp)]
 refine wpAny_pure ?_
 simp only[show¬((i:Int)<0) from by omega,if_false,Int.toNat_natCast,Array.getElem?_eq_none hi]
 refine wpAny_bind ?_
 first | refine wpAny_bind (wpAny_typeNameOfWhole_keyiter hit.typeIs (wpAny_pure ?_)) | refine wpAny_bind (wpAny_typeNameOf_keyiter hit.typeIs (wpAny_pure ?_))
 show wpAny _ _ (setField (.ref it) 0 .none>>=_) _ _ s
 refine wpAny_bind (wpAny_setField ho hd (by simp) ?_)
 show wpAny _ _ (newExc (.type "StopIteration") []>>=_) _ _ _
 refine wpAny_bind ?_
 simp only[newExc,newTuple]
 refine wpAny_bind (wpAny_newObj_type ?_ (by size_fits))
 refine wpAny_bind (m:=firstArgMember _ _) (wpAny_of_eq (a:=Value.none) (by first | rfl | (simp only[firstArgMember];rfl)) ?_)
 refine wpAny_newObj_type ?_ (by size_fits)
 simp only[raiseNew]
 refine wpAny_bind (wpAny_handled ?_)
 rw[show A.in1.handled=none from hh]
 refine wpAny_bind (wpAny_pure (wpAny_throw ?_))
 refine wpAny_bind (wpAny_isInstance (T:="StopIteration") (b:=true) ⟨_,Heap.get?_push_size _ rfl,rfl⟩ isSubtype_stop ?_)
 exact wpAny_pure (hQ _ (((Heap.SameBut.update ..).extBut.push _).push _))
theorem z4{it d:Addr}{od:Obj}{es:Array DictEntry}{ep:Nat}{Q:Option Value→Shared→Prop}(hh:A.handled=none)(hit:s.heap.IsKeyIter it d es.size es.size ep)(rk:s.heap.get? d=some od)(gR:od.data= .dict es ep)
 (hQ:∀h',Heap.ExtBut it s.heap h'→Q none {s with heap:=h'}):wpAny (model prog w) A (pyNext (.ref it)) Q E s:=pR hh hit (Nat.le_refl _) rk gR hQ
def Er(es:Array DictEntry):Nat→Value→Prop:=fun i v=>∃e,es[i]? =some e∧v=e.key
theorem wN(hh:A.handled=none)(I d:Addr)(g0:d≠I){od:Obj}{es:Array DictEntry}{ep:Nat}(gR:od.data= .dict es ep):
 Walks prog w A I [I,d] [I] es.size (Er es) (fun i h=>h.IsKeyIter I d i es.size ep∧h.get? d=some od) where
 sub:=fun b hb=>by simp at hb;simp[hb]
 frame:=fun _ _ _ st hk=>⟨st.1.at fun o e=>hk I (by simp) o e,hk d (by simp) _ st.2⟩
 item:=fun i s Q E hi st hQ=>by
  have hx:es[i]? =some es[i]:=Array.getElem?_eq_getElem hi
  exact ud st.1 st.2 gR hx fun h' CN vL=>hQ _ h' s.toks ⟨_,hx,rfl⟩ ⟨CN,(vL.2 d g0).trans st.2⟩ fun b o hb e=>vL.extBut b o (fun h=>hb (by simp[h])) e
 done:=fun s Q E st hQ=>z4 hh st.1 st.2 gR fun h' NJ=>hQ h' s.toks fun b o hb e=>NJ b o (fun h=>hb (by simp[h])) e
 self:=fun _ _ _ _ st hQ=>wpAny_pyIter_keyiter st.1 hQ
theorem BX{d:Addr}{od:Obj}{es:Array DictEntry}{ep:Nat}(lo:(d==sysModules)=false)(hx:od.ExactDict)(gR:od.data= .dict es ep):KdlSrc prog w "dict" d d es.size (Er es) (fun h=>h.get? d=some od) where
 type:=fun _ hm=>⟨od,hm,hx.1⟩
 there:=fun _ hm=>⟨Heap.lt_size hm,Heap.lt_size hm⟩
 keep:=fun _ _ hm hk=>hk d (.inl rfl) od hm
 notList:=by decide
 notTuple:=by decide
 hint:=fun _ _ s _ hm hq=>kdl_hint_dict ⟨od,hm,hx.1⟩ hq
 iter:=fun _ _ hh hm=>⟨_,_,(fun _ _ hq=>p6 lo hm hx gR hq),wN hh _ d (Nat.ne_of_lt (Heap.lt_size hm)) gR,⟨⟨_,Heap.get?_push_size _ rfl,rfl,rfl⟩,Heap.get?_push_of_some _ hm⟩⟩
end
end L3
namespace L3
open PySem
def insI(k:List Int):List (List Int)→List (List Int)
 |[]=>[k]
 |x::r=>if d6 k x then k::x::r else x::insI k r
def sortI:List (List Int)→List (List Int)
 |[]=>[]
 |k::r=>insI k (sortI r)
def vn(l:List (List Int)):Prop:=l.Pairwise fun a b=>d6 a b=true
theorem ny{k x:List Int}:∀{l:List (List Int)},x∈insI k l↔x=k∨x∈l
 |[]=>by simp[insI]
 |y::r=>by
  unfold insI
  split
  ·simp
  ·rw[List.mem_cons,ny,List.mem_cons]
   constructor
   ·rintro(h | h | h)<;>simp[h]
   ·rintro(h | h | h)<;>simp[h]
theorem pX{k:List Int}:∀{l:List (List Int)},vn l→k∉l→vn (insI k l)
 |[],_,_=>List.pairwise_singleton _ _
 |x::r,h,hk=>by
  have h:=List.pairwise_cons.mp h
  unfold insI
  split
  ·rename_i q
   refine List.pairwise_cons.mpr ⟨fun y hy=>?_,List.pairwise_cons.mpr h⟩
   rcases List.mem_cons.mp hy with rfl | hy
   ·exact q
   ·exact rA _ _ _ q (h.1 y hy)
  ·rename_i q
   have hx:d6 x k=true:=by
    rcases nM k x (fun z=>hk (by rw[z];exact List.mem_cons_self ..)) with z | z
    ·exact absurd z q
    ·exact z
   refine List.pairwise_cons.mpr ⟨fun y hy=>?_,pX h.2 fun z=>hk (List.mem_cons_of_mem _ z)⟩
   rcases ny.mp hy with rfl | hy
   ·exact hx
   ·exact h.1 y hy
theorem gj{x:List Int}:∀{l:List (List Int)},x∈sortI l↔x∈l
 |[]=>Iff.rfl
 |k::r=>by unfold sortI;rw[ny,gj,List.mem_cons]
theorem jG:∀{l:List (List Int)},l.Nodup→vn (sortI l)
 |[],_=>List.Pairwise.nil
 |k::r,h=>by
  have h:=List.nodup_cons.mp h
  exact pX (jG h.2) fun z=>h.1 (gj.mp z)
theorem oC:∀{a b:List (List Int)},vn a→vn b→(∀x,x∈a↔x∈b)→a=b
 |[],[],_,_,_=>rfl
 |[],y::b,_,_,h=>by have:=(h y).mpr (List.mem_cons_self ..);cases this
 |x::a,[],_,_,h=>by have:=(h x).mp (List.mem_cons_self ..);cases this
 |x::a,y::b,ha,hb,h=>by
  have ha:=List.pairwise_cons.mp ha
  have hb:=List.pairwise_cons.mp hb
  have e:x=y:=by
   rcases List.mem_cons.mp ((h x).mp (List.mem_cons_self ..)) with q | q
   ·exact q
   ·rcases List.mem_cons.mp ((h y).mpr (List.mem_cons_self ..)) with p | p
    ·exact p.symm
    ·have z1:=hb.1 x q
     have z2:=ha.1 y p
     rw[jR _ _ z1] at z2
     cases z2
  subst e
  have MV:∀k,d6 k k≠true:=fun k z=>by have:=jR _ _ z;rw[z] at this;cases this
  rw[oC ha.2 hb.2 fun z=>?_]
  constructor
  ·intro hz
   rcases List.mem_cons.mp ((h z).mp (List.mem_cons_of_mem _ hz)) with q | q
   ·subst q;exact absurd (ha.1 z hz) (MV z)
   ·exact q
  ·intro hz
   rcases List.mem_cons.mp ((h z).mpr (List.mem_cons_of_mem _ hz)) with q | q
   ·subst q;exact absurd (hb.1 z hz) (MV z)
   ·exact q
theorem wo:∀(n:Nat) (l:List Nat),l.Nodup→(∀x∈l,x<n)→l.length=n→∀k,k<n→k∈l
 |0,_,_,_,_,k,hk=>by omega
 |n+1,l,hd,hl,hn,k,hk=>by
  by_cases h:n∈l
  ·by_cases e:k=n
   ·subst e;exact h
   ·refine List.mem_of_mem_erase (wo n (l.erase n) (hd.erase n) (fun x hx=>?_) (by rw[List.length_erase_of_mem h,hn];rfl) k (by omega))
    have hx:=hd.mem_erase_iff.mp hx
    have:=hl x hx.2
    have:=hx.1
    omega
  ·cases l with
   |nil=>simp at hn
   |cons x r=>
    have hd:=List.nodup_cons.mp hd
    have lt:∀y∈x::r,y<n:=fun y hy=>by
     have:=hl y hy
     have:y≠n:=fun z=>h (by rw[←z];exact hy)
     omega
    exact absurd (wo n r hd.2 (fun y hy=>lt y (List.mem_cons_of_mem _ hy)) (by simpa using hn) x (lt x (List.mem_cons_self ..))) hd.1
theorem zp{ks:List (List Int)}{p:Array Nat}(hd:ks.Nodup)(P:PN ks.length p)(R:Ri (fun i j=>d6 (ks.getD i []) (ks.getD j [])) p ks.length):(p.toList.map fun i=>ks.getD i [])=sortI ks:=by
 have hsz:p.toList.length=ks.length:=by rw[Array.length_toList];exact P.sz
 have vg:∀i (h:i<p.toList.length),p.toList[i]=at' p i:=fun i h=>by
  have h':i<p.size:=by rw[Array.length_toList] at h;exact h
  rw[eD,Array.getElem?_eq_getElem h']
  simp
 refine oC ?_ (jG hd) fun x=>?_
 ·refine List.pairwise_iff_getElem.mpr fun i j hi hj tU=>?_
  rw[List.length_map] at hi hj
  rw[List.getElem_map,List.getElem_map,vg i hi,vg j hj]
  exact R i j tU (by omega)
 ·rw[gj]
  constructor
  ·intro hx
   obtain⟨i,hi,rfl⟩:=List.mem_map.mp hx
   obtain⟨j,hj,rfl⟩:=List.mem_iff_getElem.mp hi
   have:=P.lt j (by omega)
   rw[vg j hj,List.getD_eq_getElem?_getD,List.getElem?_eq_getElem this]
   exact List.getElem_mem this
  ·intro hx
   obtain⟨k,hk,rfl⟩:=List.mem_iff_getElem.mp hx
   have Ip:k∈p.toList:=by
    have hn:p.toList.Nodup:=List.pairwise_iff_getElem.mpr fun i j hi hj tU z=>by
     rw[vg i hi,vg j hj] at z
     have:=P.inj i j (by omega) (by omega) z
     omega
    exact wo ks.length p.toList hn (fun x hx=>by
     obtain⟨j,hj,rfl⟩:=List.mem_iff_getElem.mp hx
     rw[vg j hj]
     exact P.lt j (by omega)) hsz k hk
   refine List.mem_map.mpr ⟨k,Ip,?_⟩
   rw[List.getD_eq_getElem?_getD,List.getElem?_eq_getElem hk]
   rfl
end L3
namespace L3
open PySem PySem.Spec L2 SeqAt HT
open PyProof.Rows hiding St
def tupI(k:List Int):D:= .tup (k.map D.int)
def EO:D→Option (List Int)
 | .tup ds=>nums ds
 |_=>none
def js:List D→Option (List (List Int))
 |[]=>some []
 |d::ds=>match EO d,js ds with
  |some k,some ks=>some (k::ks)
  |_,_=>none
def ie(ks:List (List Int)):Bool:=decide ks.Nodup&&decide (ks.length<64)&&ks.all fun k=>!k.isEmpty
def df(H:Hp):List V→List (List Int)→Prop:=Paired fun v k=>∃a,v= .ref a∧H a=some (.tup (k.map V.int))
theorem pZ{K:W.Frag}{F H:Hp}(hs:Same F H):∀{ds:List D}{vs:List V}{ks:List (List Int)},js ds=some ks→DenL K F ds vs→df H vs ks∧df F vs ks
 |[],_,_,e,h=>by cases e;cases (show _=_ from h);exact⟨.nil, .nil⟩
 |d::ds,_,_,e,⟨v,r,h1,h2,h3⟩=>by
  subst h1
  unfold js at e
  split at e
  ·rename_i k ks e1 e2
   cases e
   obtain⟨OD,OE⟩:=pZ hs e2 h3
   cases d with
   |tup es=>
    obtain⟨a,ws,rfl,k2,k3,_⟩:=h2
    have:=g6 e1 k3
    subst this
    exact⟨.cons ⟨a,rfl,hs _ _ k2⟩ OD, .cons ⟨a,rfl,k2⟩ OE⟩
   |_=>cases e1
  ·cases e
theorem uG{K:W.Frag}{F:Hp}:∀{ws:List V}{ks:List (List Int)},df F ws ks→(∀k∈ks,k.length≤lim)→DenL K F (ks.map tupI) ws
 |_,_, .nil,_=>rfl
 |_,_, .cons (b:=k) h t,hl=>by
  obtain⟨a,rfl,h⟩:=h
  exact .cons ⟨a,_,rfl,h,DenL.ints k,by rw[List.length_map];exact hl k (List.mem_cons_self ..)⟩ (uG t fun k hk=>hl k (List.mem_cons_of_mem _ hk))
theorem qC{X:Cx}{pins:List (Addr×Obj)}{σ:St}{H:Hp}{s:Shared}(I:Inv X pins σ H s):∀{vs:List V}{aB:List Value}{ks:List (List Int)},df H vs ks→Vals vs aB→(∀k∈ks,k≠[])→TupsAt s.heap aB ks
 |_,_,_, .nil,r,_=>by cases r;exact trivial
 |_,_,_, .cons (b:=k) h t,r,hn=>by
  obtain⟨a,rfl,h⟩:=h
  cases r with
  |cons r1 r2=>
   cases (show _=_ from r1)
   obtain⟨us,ru,pt,_⟩:=I.tuple (SqT.of (K:=X.K) h)
   obtain⟨o,q1,q2,m,q3⟩:=pt
   exact⟨⟨a,o,us,m,rfl,q1,q2,q3,intsAre_of ru,hn k (List.mem_cons_self ..)⟩,qC I t r2 fun k hk=>hn k (List.mem_cons_of_mem _ hk)⟩
theorem j9{H:Hp}:∀{vs:List V}{ks:List (List Int)}{i:Nat},df H vs ks→i<vs.length→∃a,vs.getD i .non= .ref a∧H a=some (.tup ((ks.getD i []).map V.int))
 |_,_,i, .nil,hi=>by simp at hi
 |_,_,0, .cons h t,_=>h
 |_,_,i+1, .cons h t,hi=>j9 (i:=i) t (by simpa using hi)
theorem j_{H:Hp}:∀{vs:List V}{ks:List (List Int)},df H vs ks→vs.length=ks.length
 |_,_, .nil=>rfl
 |_,_, .cons h t=>by rw[List.length_cons,List.length_cons,j_ t]
theorem qB{H:Hp}{vs:List V}{ks:List (List Int)}(h:df H vs ks):∀{is:List Nat},(∀i∈is,i<vs.length)→df H (is.map fun i=>vs.getD i .non) (is.map fun i=>ks.getD i [])
 |[],_=> .nil
 |i::is,hi=> .cons (j9 h (hi i (List.mem_cons_self ..))) (qB h fun j hj=>hi j (List.mem_cons_of_mem _ hj))
theorem iZ:∀{vs:List V}{us:List Value}(i:Nat),Vals vs us→i<vs.length→RelV (vs.getD i .non) (us.getD i Value.none)
 |_,_,i, .nil,hi=>by simp at hi
 |_,_,0, .cons h t,_=>h
 |_,_,i+1, .cons h t,hi=>iZ i t (by simpa using hi)
theorem qL{vs:List V}{us:List Value}(h:Vals vs us):∀{is:List Nat},(∀i∈is,i<vs.length)→Vals (is.map fun i=>vs.getD i .non) (is.map fun i=>us.getD i Value.none)
 |[],_=> .nil
 |i::is,hi=> .cons (iZ i h (hi i (List.mem_cons_self ..))) (qL h fun j hj=>hi j (List.mem_cons_of_mem _ hj))
section
variable{X:Cx}{Xw:Nat→Hp→Prop}{e:Expr}{δs:DA}{pos p:Pos}
theorem qG:∀l:List (List Int),(sortI l).length=l.length
 |[]=>rfl
 |k::r=>by
  have ins:∀(k:List Int) (l:List (List Int)),(insI k l).length=l.length+1:=by
   intro k l
   induction l with
   |nil=>rfl
   |cons x l ih=>
    unfold insI
    split
    ·rfl
    ·rw[List.length_cons,ih,List.length_cons]
  unfold sortI
  rw[ins,qG r,List.length_cons]
end
def nH(k:List Int):List Key:=k.map Sum.inl
def Jx:List V→Hp→VK→Prop:=fun xs H Q=>∃p aw ks,xs=[.ref p]∧Rd H p (.dT aw)∧aw.map (·.1)=ks.map nH∧ie ks=true∧∀(q:Addr) (ws:List V),H q=none→df H ws (sortI ks)→Q (.ref q) (upd H q (.lst ws))
theorem p8{H:Hp}:∀{aw:List (List Key×V)}{xs:List (List Key×Addr×Value)}{ks:List (List Int)},Paired (fun (p:List Key×V) (q:List Key×Addr×Value)=>p.1=q.1∧H q.2.1=some (.tup (p.1.map kV))∧RelV p.2 q.2.2) aw xs→
 aw.map (·.1)=ks.map nH→df H (xs.map fun x=>V.ref x.2.1) ks
 |_,_,[], .nil,_=> .nil
 |_,_,_::_, .nil,e=>by simp at e
 |_,_,[], .cons h t,e=>by simp at e
 |_,_,k::ks, .cons h t,e=>by
  rw[List.map_cons,List.map_cons] at e
  injection e with e1 e2
  refine .cons ⟨_,rfl,?_⟩ (p8 t e2)
  have hk:(nH k).map kV=k.map V.int:=by unfold nH;rw[List.map_map];rfl
  rw[h.2.1,e1,hk]
section
variable{X:Cx}{Xw:Nat→Hp→Prop}{e:Expr}{δs:DA}{pos p:Pos}
theorem yk(hc:X.calm=true):CallR X (.builtin "sorted") Jx:=by
 intro pins s σ H xs us Q I r h
 obtain⟨a,aw,ks,rfl,hH,EK,hk,q⟩:=h
 obtain⟨u,rfl,r1⟩:=r.one
 cases (show u=_ from r1)
 obtain⟨z,lo,xs,rel,o,es,ep,g1,g2,g3,g4,g5⟩:=(show ObjOk X.prog X.w H s.heap a (.dT aw) from hH.ok I.hok)
 unfold ie at hk
 rw[Bool.and_eq_true,Bool.and_eq_true] at hk
 have hd:ks.Nodup:=of_decide_eq_true hk.1.1
 have KD:ks.length<64:=of_decide_eq_true hk.1.2
 have g0:∀k∈ks,k≠[]:=fun k Hb z=>by have:=List.all_eq_true.mp hk.2 k Hb;rw[z] at this;cases this
 have hr:=p8 rel EK
 have Ig:=j_ hr
 rw[List.length_map] at Ig
 have MF:es.size=xs.length:=by rw[←Array.length_toList,g4,List.length_map]
 have Av:sizeLine=16777216:=sizeLine_eq
 refine Calls.call_function_entry kind_sorted plain_sorted entry_sorted (args_sorted1 _) ?_
 unfold Builtin.«sorted»
 refine wpAny_bind (m:=checkCount "sorted" 1 1 _) (wpAny_pure (wpAny_bind (PySem.W.kdu_collect (A:=X.A.in1) (BX lo g2 g3) (I.ok.hd hc) g1 (by rw[MF,Av];omega) fun h1 tk acc IP Al=>?_)))
 have HR:acc.toList.length=xs.length:=by rw[Array.length_toList,←MF];exact Al.1
 have I1:Inv X pins σ H {s with heap:=h1,toks:=tk}:=I.kept (t':=tk) fun b ob e=>IP b ob e
 have rv:Vals (xs.map fun x=>V.ref x.2.1) acc.toList:=by
  have ext:∀{vs:List V}{us:List Value},vs.length=us.length→(∀(i:Nat) (v:V) (u:Value),vs[i]? =some v→us[i]? =some u→RelV v u)→Vals vs us:=by
   intro vs
   induction vs with
   |nil=>intro us h _;cases us with | nil=>exact .nil | cons _ _=>simp at h
   |cons v vs ih=>
    intro us h hh
    cases us with
    |nil=>simp at h
    |cons u us=>exact .cons (hh 0 v u rfl rfl) (ih (by simpa using h) fun i v u h1 h2=>hh (i+1) v u h1 h2)
  refine ext (by rw[List.length_map,HR]) fun i v u e1 e2=>?_
  rw[Array.getElem?_toList] at e2
  obtain⟨en,q1,q2⟩:=Al.2 i u e2
  rw[←Array.getElem?_toList,g4,List.getElem?_map] at q1
  rw[List.getElem?_map] at e1
  cases w:xs[i]? with
  |none=>rw[w] at e1;cases e1
  |some x=>
   rw[w] at e1 q1
   cases e1
   cases q1
   exact q2
 have ht:=qC I1 hr rv g0
 refine wpAny_bind (wpAny_newList ?_ (by rw[Av];omega))
 have J7:(h1.push (seqObj "list" acc.toList.toArray 0)).get? h1.objs.size=some (seqObj "list" acc.toList.toArray 0):=Heap.get?_push_size _ rfl
 refine wpAny_bind (wpAny_holding (wpAny_call_entry slot_list_sort ⟨_,J7,rfl⟩ entry_list_sort (zo (s:={s with heap:=h1.push (seqObj "list" acc.toList.toArray 0),toks:=tk}) J7
  (ht.keep (a:=h1.objs.size) (fun b o _ e=>Heap.get?_push_of_some _ e) (fun o e=>absurd (Heap.lt_size e) (Nat.lt_irrefl _))) hd (by omega) fun P h' c' hP hR K2 Ic=>?_) (args_list_sort _)))
 have HP:∀i∈P.toList,i<(xs.map fun x=>V.ref x.2.1).length:=fun i hi=>by
  obtain⟨j,hj,rfl⟩:=List.mem_iff_getElem.mp hi
  have h':j<P.size:=by rw[Array.length_toList] at hj;exact hj
  have:=hP.lt j (by rw[hP.sz] at h';exact h')
  rw[eD,Array.getElem?_eq_getElem h'] at this
  have e:P.toList[j]=P[j]:=by simp
  rw[e,List.length_map]
  have:P[j]<acc.toList.length:=this
  omega
 have Nz:PN ks.length P:=by rw[←Ig,←HR];exact hP
 have NA:Ri (fun i j=>d6 (ks.getD i []) (ks.getD j [])) P ks.length:=by rw[←Ig,←HR];exact hR
 have Kb:=zp hd Nz NA
 have MQ:=qB hr HP
 rw[Kb] at MQ
 refine⟨_,rfl,wpAny_pure ⟨_,rfl,⟨.ref h1.objs.size,_,I1.laid (a:=h1.objs.size) (t':=tk) (o:= .lst (P.toList.map fun i=>(xs.map fun x=>V.ref x.2.1).getD i .non)) (fun b ob e=>Ic b ob (Nat.ne_of_lt (Heap.lt_size e)) (Heap.get?_push_of_some _ e)) (Nat.le_refl _) ?_,rfl,q _ _ (I1.hok.fresh (Nat.le_refl _)) MQ⟩⟩⟩
 exact⟨by rw[List.length_map,Array.length_toList,hP.sz,Av];omega,_,c',qL rv HP,K2⟩
theorem qA{F F':Hp}(e:Same F F'):∀{ws:List V}{ks:List (List Int)},df F ws ks→df F' ws ks
 |_,_, .nil=> .nil
 |_,_, .cons ⟨b,q1,q2⟩ t=> .cons ⟨b,q1,e _ _ q2⟩ (qA e t)
theorem uH{F H:Hp}(hs:Same F H):∀{ws:List V}{ks:List (List Int)},df H ws ks→∃F',Ext F H F' H∧df F' ws ks
 |_,_, .nil=>⟨F,Ext.refl hs, .nil⟩
 |_,_, .cons h t=>by
  obtain⟨a,rfl,h⟩:=h
  obtain⟨F1,e1,r1⟩:=uH hs t
  have e2:=Ext.tup (F:=F1) e1.fh h
  refine⟨_,e1.trans e2, .cons ⟨a,rfl,aD⟩ ?_⟩
  exact qA e2.ff r1
def pY:List Key→Option (List Int)
 |[]=>some []
 | .inl i::r=>(pY r).map (i:: ·)
 |_=>none
def e7:List (List Key)→Option (List (List Int))
 |[]=>some []
 |k::r=>match pY k,e7 r with
  |some x,some xs=>some (x::xs)
  |_,_=>none
theorem tX:∀{k:List Key}{x:List Int},pY k=some x→k=nH x
 |[],_,e=>by cases e;rfl
 | .inl i::r,_,e=>by
   unfold pY at e
   cases q:pY r with
   |none=>rw[q] at e;cases e
   |some y=>rw[q] at e;cases e;rw[tX q];rfl
 | .inr _::r,_,e=>by cases e
theorem kF:∀{kk:List (List Key)}{ks:List (List Int)},e7 kk=some ks→kk=ks.map nH
 |[],_,e=>by cases e;rfl
 |k::r,_,e=>by
  unfold e7 at e
  split at e
  ·rename_i x xs e1 e2
   cases e
   rw[List.map_cons,←tX e1,←kF e2]
  ·cases e
def qH:List D→M D
 |[.dct kk ds]=>match e7 kk with
  |some ks=>if ie ks&&ks.all (fun k=>decide (k.length≤lim)) then M.ret (.lst ((sortI ks).map tupI)) else M.stuck
  |none=>M.stuck
 |_=>M.stuck
theorem i3{α β:Type}:∀{a:List α}{b:List β},a.length=b.length→(a.zip b).map (·.1)=a
 |[],[],_=>rfl
 |x::a,y::b,h=>by rw[List.zip_cons_cons,List.map_cons,i3 (by simpa using h)]
 |[],_::_,h=>by simp at h
 |_::_,[],h=>by simp at h
theorem DB(hc:X.calm=true)(hg:Gl X "sorted")(hm:X.mg "sorted"=none)(hb:bootBuiltins "sorted"=some (.builtin "sorted"))(ha:lu X Xw [e] δs)(he:starEach [e] X.env=[(false,eval e X.env)]:=by rfl):PD X Xw (.Call (.Name "sorted" p) [e] [] pos) (dA qH δs):=
 dN (yk hc) (fun Xw F H vs ds Q s h w=>by
  unfold qH at w
  split at w
  ·rename_i kk ds
   obtain⟨v,rfl,h1⟩:=h.one
   obtain⟨a,ob,ws,rfl,h2,h3,h4,h5⟩:=h1
   split at w
   ·rename_i ks K_
    split at w
    ·rename_i hok
     rw[Bool.and_eq_true] at hok
     have hl:∀k∈ks,k.length≤lim:=fun k hk=>of_decide_eq_true (List.all_eq_true.mp hok.2 k hk)
     have KD:ks.length<64:=by
      have:=hok.1
      unfold ie at this
      rw[Bool.and_eq_true,Bool.and_eq_true] at this
      exact of_decide_eq_true this.1.2
     refine⟨a,_,ks,rfl, .inr ⟨ob,s _ _ h2⟩,by rw[i3 (by rw[h4];exact h3.len),kF K_],hok.1,fun q us hq hr=>?_⟩
     obtain⟨F1,e1,r1⟩:=uH s hr
     have e2:=Ext.lay (o:= .lst us) e1.fh hq
     exact WP.fin w (e1.trans e2) ⟨q,_,rfl,aD,DenL.mono e2.ff (uG r1 fun k hk=>hl k (gj.mp hk)),by rw[List.length_map,qG];unfold lim;omega⟩
    ·exact w.elim
   ·exact w.elim
  ·exact w.elim) hg hm hb ha (by decide) (by decide) he rfl
end
end L3
namespace L3
open PySem PySem.Spec L2
open PyProof.Rows hiding St
def orM{α:Type}(a b:M α):M α:=match a with
 |none=>b
 |some r=>some r
def FN(a b:DA):DA:=fun ρ=>orM (a ρ) (b ρ)
section
variable{X:Cx}{Xw:Nat→Hp→Prop}{e tg:Expr}{es:List Expr}{δ δ':DE}{δi δi' δs:DA}{τ:DT}
theorem DD(h:ve X Xw tg e δi)(h':ve X Xw tg e δi'):ve X Xw tg e (FN δi δi'):=fun pins s σ H Q I ⟨F,ρ,S,w⟩=>by
 unfold FN orM at w
 cases q:δi ρ with
 |none=>rw[q] at w;exact h' pins s σ H Q I ⟨F,ρ,S,w⟩
 |some r=>rw[q] at w;exact h pins s σ H Q I ⟨F,ρ,S,by rw[q];exact w⟩
theorem iY{st:Stmt}:gS X Xw st (fun _=>M.stuck):=fun F₀ H₀ pins s σ H D I ⟨F,ρ,S,w⟩=>w.elim
end
def fgt:List Nat→aX→aX
 |[],ρ=>ρ
 |i::is,ρ=>fgt is (ρ.set i none)
def Jc(f:aX→aX):Out→M Out
 | .nx ρ=>M.ret (.nx (f ρ))
 | .rt d=>M.ret (.rt d)
def cG(is:List Nat)(τ:DS):DS:=fun ρ=>τ ρ>>=Jc (fgt is)
theorem StOk.fgt1{K:W.Frag}{F₀ H₀ F H:Hp}{σ:St}{ρ:aX}(s:StOk K F₀ H₀ F H σ ρ)(i:Nat):StOk K F₀ H₀ F H σ (ρ.set i none):=by
 have get:∀(j:Nat) (sl:Sl),(ρ.set i none)[j]? =some (some sl)→ρ[j]? =some (some sl):=fun j sl e=>by
  by_cases hj:j=i
  ·subst hj
   by_cases hl:j<ρ.length
   ·rw[List.getElem?_set_self hl] at e;cases e
   ·rw[List.getElem?_eq_none (by simpa using hl)] at e;cases e
  ·rw[List.getElem?_set_ne (Ne.symm hj)] at e;exact e
 exact⟨s.ext,⟨s.st.fh,fun j sl e=>s.st.den j sl (get j sl e)⟩,by simp[s.len],fun j c a e e'=>s.own j c a (get j _ e) e',fun j k c c' a e1 e2 e3 e4=>s.sep j k c c' a (get j _ e1) (get k _ e2) e3 e4⟩
theorem StOk.fgt{K:W.Frag}{F₀ H₀ F H:Hp}{σ:St}:∀(is:List Nat) {ρ:aX},StOk K F₀ H₀ F H σ ρ→StOk K F₀ H₀ F H σ (L3.fgt is ρ)
 |[],_,s=>s
 |i::is,_,s=>StOk.fgt is (s.fgt1 i)
theorem WPS.fgt{K:W.Frag}{Xw:Nat→Hp→Prop}{F₀ H₀:Hp}{is:List Nat}{m:M Out}{Dn:Ends}(w:WPS K Xw F₀ H₀ (m>>=Jc (L3.fgt is)) Dn):WPS K Xw F₀ H₀ m Dn:=by
 match m,w with
 |none,w=>exact w
 |some (.ok (.nx ρ)),w=>exact fun σ F H s=>w σ F H (s.fgt is)
 |some (.ok (.rt d)),w=>exact w
 |some (.ex n),w=>exact w
section
variable{X:Cx}{Xw:Nat→Hp→Prop}{st:Stmt}{M8:List Stmt}{τ:DS}{is:List Nat}
theorem br(h:PSDs X Xw M8 τ):PSDs X Xw M8 (cG is τ):=fun F₀ H₀=>PSs.weak (h F₀ H₀) fun D σ H ⟨F,ρ,s,w⟩=>⟨F,ρ,s,WPS.fgt w⟩
end
def Nt:Option Sl→Option Sl
 |some (.ow c)=>some (.fz c.d)
 |x=>x
def vG(ρ:aX):aX:=ρ.map Nt
def refA(h:Heap)(P:Addr→Prop)[DecidablePred P](H:Hp):Hp:=fun b=>if P b then(H b).map (my ((h.get? b).getD {cls:= .none,data:= .fields #[]})) else H b
theorem vH(ob:Obj)(o:HO):my ob o=o∨((∃k,o= .dT k)∨∃k,o= .dK k)∧my ob o= .frz ob o:=by
 cases o<;>first | exact .inl rfl | exact .inr ⟨.inl ⟨_,rfl⟩,rfl⟩ | exact .inr ⟨.inr ⟨_,rfl⟩,rfl⟩
section
variable{X:Cx}{pins:List (Addr×Obj)}{σ:St}{H:Hp}{s:Shared}{P:Addr→Prop}[DecidablePred P]
theorem gh{h:Heap}{b:Addr}(e:H b=none):refA h P H b=none:=by
 unfold refA;split
 ·rw[e];rfl
 ·exact e
theorem qz{h:Heap}{b:Addr}{o:HO}(e:H b=some o):refA h P H b=some o∨((∃k,o= .dT k)∨∃k,o= .dK k)∧P b∧refA h P H b=some (.frz ((h.get? b).getD {cls:= .none,data:= .fields #[]}) o):=by
 unfold refA;split
 ·rename_i hp
  rw[e]
  rcases vH ((h.get? b).getD {cls:= .none,data:= .fields #[]}) o with q | ⟨q1,q2⟩
  ·exact .inl (by show some _=_;rw[q])
  ·exact .inr ⟨q1,hp,by show some _=_;rw[q2]⟩
 ·exact .inl e
theorem gg{h:Heap}{b:Addr}{o:HO}(e:H b=some o)(n1:∀k,o≠ .dT k)(n2:∀k,o≠ .dK k):refA h P H b=some o:=by
 rcases qz (P:=P) (h:=h) e with q | ⟨⟨k,q⟩ | ⟨k,q⟩,_⟩
 ·exact q
 ·exact absurd q (n1 k)
 ·exact absurd q (n2 k)
theorem Inv.refA(I:Inv X pins σ H s):Inv X pins σ (L3.refA s.heap P H) s:=by
 have obj:∀b o,H b=some o→((∃k,o=HO.dT k)∨∃k,o= .dK k)→∃ob,s.heap.get? b=some ob:=fun b o e hu=>by
  have hk:=I.hok b o e
  rcases hu with⟨k,h1⟩ | ⟨k,h1⟩
  ·subst h1;obtain⟨_,_,_,_,ob,_,_,q,_⟩:=hk;exact⟨ob,q⟩
  ·subst h1;obtain⟨_,_,_,_,ob,_,_,q,_⟩:=hk;exact⟨ob,q⟩
 refine⟨I.ok,I.os,I.bare,⟨I.base.keep,I.base.slot,fun b q h1 h2 h3=>gh (I.base.free b q h1 h2 h3),I.base.there,fun b xs q=>gg (I.base.tups b xs q) (fun _ z=>nomatch z) (fun _ z=>nomatch z),
  fun b q1 v q=>gg (I.base.frzs b q1 v q) (fun _ z=>nomatch z) (fun _ z=>nomatch z),fun b ps q=>?_⟩,I.loc,I.cell,gh I.free,fun x c q=>gh (I.freeC x c q),fun p hp=>?_,fun b v q=>?_,I.len⟩
 ·obtain⟨m,this⟩:=I.base.tbls b ps q
  exact⟨m,gg this (fun _ z=>nomatch z) (fun _ z=>nomatch z)⟩
 ·obtain⟨h1,h2,h3⟩:=I.pin p hp
  exact⟨h1,gh h2,h3⟩
 ·have st:∀{c:Addr}{v:HO},ObjOk X.prog X.w H s.heap c v→ObjOk X.prog X.w (L3.refA s.heap P H) s.heap c v:=fun {c v} k=>k.stay (fun _ _ _ q=>q)
   (fun c' q=>gg q (fun _ z=>nomatch z) (fun _ z=>nomatch z)) fun c' xs q=>gg q (fun _ z=>nomatch z) (fun _ z=>nomatch z)
  cases e:H b with
  |none=>rw[gh e] at q;cases q
  |some o=>
   rcases qz (P:=P) (h:=s.heap) e with z | ⟨hu,hp,z⟩
   ·rw[z] at q;cases q;exact st (I.hok b _ e)
   ·rw[z] at q
    cases q
    obtain⟨ob,Im⟩:=obj b o e hu
    rw[Im]
    exact⟨Im,st (I.hok b o e)⟩
def unA(P:Addr→Prop)[DecidablePred P](H:Hp):Hp:=fun b=>if P b then(match H b with | some (.frz _ u)=>some u | x=>x) else H b
theorem Inv.unA(I:Inv X pins σ H s)(hP:∀b,P b→∀o u,X.H₀ b≠some (.frz o u))(hQ:∀b,P b→∀o u,H b=some (.frz o u)→(∃k,u= .dT k)∨∃k,u= .dK k):Inv X pins σ (L3.unA P H) s:=by
 have non:∀b,H b=none→L3.unA P H b=none:=fun b e=>by unfold L3.unA;rw[e];split<;>rfl
 have keep:∀b o,H b=some o→(∀q u,o≠ .frz q u)→L3.unA P H b=some o:=fun b o e n=>by
  unfold L3.unA;split
  ·rw[e];cases o<;>first | rfl | exact absurd rfl (n _ _)
  ·exact e
 refine⟨I.ok,I.os,I.bare,⟨I.base.keep,I.base.slot,fun b q h1 h2 h3=>non b (I.base.free b q h1 h2 h3),I.base.there,fun b xs q=>keep b _ (I.base.tups b xs q) (fun _ _ z=>nomatch z),
  fun b q1 v q=>?_,fun b ps q=>?_⟩,I.loc,I.cell,non _ I.free,fun x c q=>non _ (I.freeC x c q),fun p hp=>?_,fun b v q=>?_,I.len⟩
 ·have:=I.base.frzs b q1 v q
  unfold L3.unA
  rw[if_neg (fun hp=>hP b hp q1 v q)]
  exact this
 ·obtain⟨m,this⟩:=I.base.tbls b ps q
  exact⟨m,keep b _ this (fun _ _ z=>nomatch z)⟩
 ·obtain⟨h1,h2,h3⟩:=I.pin p hp
  exact⟨h1,non _ h2,h3⟩
 ·have st:∀{c:Addr}{v:HO},ObjOk X.prog X.w H s.heap c v→ObjOk X.prog X.w (L3.unA P H) s.heap c v:=fun {c v} k=>k.stay (fun _ _ _ q=>q)
   (fun c' q=>keep c' _ q (fun _ _ z=>nomatch z)) fun c' xs q=>keep c' _ q (fun _ _ z=>nomatch z)
  cases e:H b with
  |none=>rw[non b e] at q;cases q
  |some o=>
   have ko:=I.hok b o e
   by_cases hf:∃ob u,o= .frz ob u
   ·obtain⟨ob,u,rfl⟩:=hf
    unfold L3.unA at q
    split at q
    ·rw[e] at q
     cases q
     obtain⟨_,k2⟩:=ko
     exact st k2
    ·rw[e] at q;cases q;exact st ko
   ·rw[keep b o e (fun q u z=>hf ⟨q,u,z⟩)] at q
    cases q
    exact st ko
end
mutual
def xl:D→Bool
 | .non=>true
 | .bl _=>true
 | .int _=>true
 | .str _=>true
 | .tup ds=>xm ds
 | .raw _=>false
 | .exc _=>false
 | .scr _=>false
 | .lst _=>false
 | .dct _ _=>false
 | .dci _ _=>false
def xm:List D→Bool
 |[]=>true
 |d::ds=>xl d&&xm ds
end
def ni(d:D):M D:=if xl d then M.ret d else M.stuck
def OwnAt(σ:St)(ρ:aX)(b:Addr):Prop:=∃(i:Nat) (c:C),ρ[i]? =some (some (Sl.ow c))∧σ[i]? =some (some (V.ref b))
section
variable{K:W.Frag}{F H F' H':Hp}{σ:St}{ρ:aX}{h:Heap}{b:Addr}
theorem OwnAt.obj(S:StE K F H σ ρ)(p:OwnAt σ ρ b):F b=none∧∃o,H b=some o∧((∃x,o= .lst x)∨(∃x,o= .dT x)∨∃x,o= .dK x):=by
 obtain⟨i,c,h1,h2⟩:=p
 obtain⟨v,h3,a,o,rfl,h4,h5,h6⟩:=S.den i _ h1
 rw[h3] at h2
 cases h2
 refine⟨h5,o,h4,?_⟩
 cases c with
 |lst ds=>obtain⟨vs,rfl,_⟩:=h6;exact .inl ⟨_,rfl⟩
 |dct ks ds=>obtain⟨vs,rfl,_⟩:=h6;exact .inr (.inl ⟨_,rfl⟩)
 |dci ks ds=>obtain⟨vs,rfl,_⟩:=h6;exact .inr (.inr ⟨_,rfl⟩)
open Classical in
noncomputable def fA(σ:St)(ρ:aX)(H1 F:Hp):Hp:=fun b=>if OwnAt σ ρ b then H1 b else F b
open Classical in
theorem xk(S:StE K F H σ ρ){H1:Hp}:Same F (fA σ ρ H1 F):=fun b u e=>by
 unfold fA
 rw[if_neg (fun p=>by rw[(OwnAt.obj S p).1] at e;cases e)]
 exact e
open Classical in
theorem Aa(S:StE K F H σ ρ):StE K (fA σ ρ (refA h (OwnAt σ ρ) H) F) (refA h (OwnAt σ ρ) H) σ (vG ρ):=by
 refine⟨fun b u e=>?_,fun j sl e=>?_⟩
 ·unfold fA at e
  split at e
  ·exact e
  ·rename_i hp
   unfold refA
   rw[if_neg hp]
   exact S.fh b u e
 ·unfold vG at e
  rw[List.getElem?_map] at e
  cases q:ρ[j]? with
  |none=>rw[q] at e;cases e
  |some x=>
   rw[q] at e
   cases x with
   |none=>cases e
   |some y=>
    cases y with
    |fz d=>
     cases e
     obtain⟨v,h1,h2⟩:=S.den j _ q
     exact⟨v,h1,Den.mono (xk S) h2⟩
    |ow c=>
     cases e
     obtain⟨v,h1,a,o,rfl,h4,h5,h6⟩:=S.den j _ q
     refine⟨_,h1,DenC.den (ob:=(h.get? a).getD {cls:= .none,data:= .fields #[]}) h6 (xk S) ?_⟩
     have hp:OwnAt σ ρ a:=⟨j,c,q,h1⟩
     unfold fA refA
     rw[if_pos hp,if_pos hp,h4]
     rfl
open Classical in
theorem tO(S:StE K F H σ ρ)(E:Ext (fA σ ρ (refA h (OwnAt σ ρ) H) F) (refA h (OwnAt σ ρ) H) F' H'):
 Ext F H (fun b=>if OwnAt σ ρ b then none else F' b) (unA (OwnAt σ ρ) H')∧∀b,OwnAt σ ρ b→∀o u,H' b=some (.frz o u)→(∃k,u= .dT k)∨∃k,u= .dK k:=by
 have Mg:∀b,OwnAt σ ρ b→∃o,H b=some o∧H' b=some (my ((h.get? b).getD {cls:= .none,data:= .fields #[]}) o)∧((∃x,o= .lst x)∨(∃x,o= .dT x)∨∃x,o= .dK x):=fun b hp=>by
  obtain⟨_,o,h1,h2⟩:=OwnAt.obj S hp
  refine⟨o,h1,E.hh b _ ?_,h2⟩
  unfold refA
  rw[if_pos hp,h1]
  rfl
 refine⟨⟨fun b o e=>?_,fun b u e=>?_,fun b u e=>?_,fun b hb=>?_⟩,fun b hp o u e=>?_⟩
 ·unfold unA
  by_cases hp:OwnAt σ ρ b
  ·obtain⟨o',h1,h2,h3⟩:=Mg b hp
   rw[e] at h1
   cases h1
   rw[if_pos hp,h2]
   rcases h3 with⟨x,rfl⟩ | ⟨x,rfl⟩ | ⟨x,rfl⟩<;>rfl
  ·rw[if_neg hp]
   refine E.hh b o ?_
   unfold refA
   rw[if_neg hp]
   exact e
 ·have hp:¬OwnAt σ ρ b:=fun p=>by rw[(OwnAt.obj S p).1] at e;cases e
  show (if OwnAt σ ρ b then none else F' b)=_
  rw[if_neg hp]
  refine E.ff b u ?_
  unfold fA
  rw[if_neg hp]
  exact e
 ·have e:(if OwnAt σ ρ b then none else F' b)=some u:=e
  split at e
  ·cases e
  ·rename_i hp
   unfold unA
   rw[if_neg hp]
   exact E.fh b u e
 ·show (if OwnAt σ ρ b then none else F' b)=F b∨_
  by_cases hp:OwnAt σ ρ b
  ·rw[if_pos hp]
   exact .inl (OwnAt.obj S hp).1.symm
  ·rw[if_neg hp]
   have e1:refA h (OwnAt σ ρ) H b=H b:=by unfold refA;rw[if_neg hp]
   have e2:fA σ ρ (refA h (OwnAt σ ρ) H) F b=F b:=by unfold fA;rw[if_neg hp]
   rcases E.new b (by rw[e1];exact hb) with q | q
   ·exact .inl (q.trans e2)
   ·rw[e1] at q;exact .inr q
 ·obtain⟨o',h1,h2,h3⟩:=Mg b hp
  rw[e] at h2
  rcases h3 with⟨x,rfl⟩ | ⟨x,rfl⟩ | ⟨x,rfl⟩
  ·cases h2
  ·cases h2;exact .inl ⟨_,rfl⟩
  ·cases h2;exact .inr ⟨_,rfl⟩
open Classical in
mutual
theorem tL(S:StE K F H σ ρ)(E:Ext (fA σ ρ (refA h (OwnAt σ ρ) H) F) (refA h (OwnAt σ ρ) H) F' H'):∀{d:D}{v:V},xl d=true→Den K F' d v→Den K (fun b=>if OwnAt σ ρ b then none else F' b) d v
 | .non,_,_,q=>q
 | .bl _,_,_,q=>q
 | .int _,_,_,q=>q
 | .str _,_,_,q=>q
 | .tup ds,_,f,⟨a,vs,h1,h2,h3,h4⟩=>by
   refine⟨a,vs,h1,?_,pS S E ?_ h3,h4⟩
   ·show (if OwnAt σ ρ a then none else F' a)=_
    rw[if_neg,h2]
    intro hp
    obtain⟨_,o,k1,k2⟩:=OwnAt.obj S hp
    have k3:fA σ ρ (refA h (OwnAt σ ρ) H) F a=some (my ((h.get? a).getD {cls:= .none,data:= .fields #[]}) o):=by
     unfold fA refA
     rw[if_pos hp,if_pos hp,k1]
     rfl
    have k4:=E.ff a _ k3
    rw[h2] at k4
    rcases k2 with⟨x,rfl⟩ | ⟨x,rfl⟩ | ⟨x,rfl⟩<;>cases k4
   ·exact f
 | .raw _,_,f,_=>by cases f
 | .exc _,_,f,_=>by cases f
 | .scr _,_,f,_=>by cases f
 | .lst _,_,f,_=>by cases f
 | .dct _ _,_,f,_=>by cases f
 | .dci _ _,_,f,_=>by cases f
theorem pS(S:StE K F H σ ρ)(E:Ext (fA σ ρ (refA h (OwnAt σ ρ) H) F) (refA h (OwnAt σ ρ) H) F' H'):∀{ds:List D}{vs:List V},xm ds=true→DenL K F' ds vs→DenL K (fun b=>if OwnAt σ ρ b then none else F' b) ds vs
 |[],_,_,q=>q
 |d::ds,_,f,⟨v,r,h1,h2,h3⟩=>by
  unfold xm at f
  rw[Bool.and_eq_true] at f
  exact⟨v,r,h1,tL S E f.1 h2,pS S E f.2 h3⟩
end
end
section
variable{X:Cx}{Xw:Nat→Hp→Prop}{e:Expr}{δ:DE}{τ:DT}
theorem qm{pins:List (Addr×Obj)}{s:Shared}{F H:Hp}{σ:St}{ρ:aX}(I:Inv X pins σ H s)(S:StE X.K F H σ ρ)(b:Addr)(p:OwnAt σ ρ b)(o:Obj)(u:HO):X.H₀ b≠some (.frz o u):=fun z=>by
 obtain⟨_,o',k1,k2⟩:=OwnAt.obj S p
 have:=I.base.frzs b o u z
 rw[k1] at this
 rcases k2 with⟨x,rfl⟩ | ⟨x,rfl⟩ | ⟨x,rfl⟩<;>cases this
theorem n0{α:Type}(m:M α):noex m=M.stuck∨∃a,m=M.ret a∧noex m=M.ret a:=by
 rcases m.cs with h | ⟨n,h⟩ | ⟨a,h⟩
 ·subst h;exact .inl rfl
 ·subst h;exact .inl rfl
 ·subst h;exact .inr ⟨a,rfl,rfl⟩
theorem Bn(h:ku X Xw e τ):ku X Xw e (fun ρ=>noex (τ (vG ρ))):=fun pins s σ H Q I ⟨F,ρ,S,w⟩=>by
 classical
 rcases n0 (τ (vG ρ)) with q | ⟨b,q,q2⟩
 ·have w:WPB Xw F H (noex (τ (vG ρ))) Q:=w
  rw[q] at w
  exact w.elim
 ·have w:WPB Xw F H (noex (τ (vG ρ))) Q:=w
  rw[q2] at w
  refine bK (h pins s σ _ (fun b' H'=>Q b' (unA (OwnAt σ ρ) H')∧∀c,OwnAt σ ρ c→∀o u,H' c=some (.frz o u)→(∃k,u= .dT k)∨∃k,u= .dK k) (Inv.refA (P:=OwnAt σ ρ) I) ⟨_,_,Aa (h:=s.heap) S,?_⟩) fun b' s' ⟨H',I',q1,q3⟩=>⟨_,Inv.unA I' (qm I S) q3,q1⟩
  rw[q]
  intro H' F' E
  obtain⟨E1,q3⟩:=tO S E
  exact⟨w _ _ E1,q3⟩
theorem Jg(h:PD X Xw e δ):PD X Xw e (fun ρ=>noex (δ (vG ρ))>>=ni):=fun pins s σ H Q I ⟨F,ρ,S,w⟩=>by
 classical
 rcases n0 (δ (vG ρ)) with q | ⟨d,q,q2⟩
 ·have w:WP X.K Xw F H (noex (δ (vG ρ))>>=ni) Q:=w
  rw[q] at w
  exact w.elim
 ·have w:WP X.K Xw F H (noex (δ (vG ρ))>>=ni) Q:=w
  rw[q2,aq] at w
  unfold ni at w
  split at w
  ·rename_i hf
   refine bK (h pins s σ _ (fun v H'=>Q v (unA (OwnAt σ ρ) H')∧∀c,OwnAt σ ρ c→∀o u,H' c=some (.frz o u)→(∃k,u= .dT k)∨∃k,u= .dK k) (Inv.refA (P:=OwnAt σ ρ) I) ⟨_,_,Aa (h:=s.heap) S,?_⟩) fun b' s' ⟨v,H',I',rv,q1,q3⟩=>⟨v,_,Inv.unA I' (qm I S) q3,rv,q1⟩
   rw[q]
   intro v H' F' E dn
   obtain⟨E1,q3⟩:=tO S E
   exact⟨w _ _ _ E1 (tL S E hf dn),q3⟩
  ·exact w.elim
end
abbrev DF:=aX→M C
def WPF(K:W.Frag)(Xw:Nat→Hp→Prop)(F H:Hp)(m:M C)(Q:VK):Prop:=
 match m with
 |none=>False
 |some (.ok c)=>∀a o H' F',Ext F H F' H'→H' a=some o→F' a=none→H a=none→DenC K F' c o→Q (.ref a) H'
 |some (.ex n)=>∀F' H',Ext F H F' H'→Xw n H'
def OP(K:W.Frag)(Xw:Nat→Hp→Prop)(δ:DF):TE:=fun σ H Q=>∃F ρ,StE K F H σ ρ∧WPF K Xw F H (δ ρ) Q
def Mc(X:Cx)(Xw:Nat→Hp→Prop)(e:Expr)(δ:DF):Prop:=PE X e (OP X.K Xw δ)
def BQ(i:Nat)(δ:DF):DS:=fun ρ=>δ ρ>>=fun c=>M.ret (.nx (ρ.set i (some (.ow c))))
theorem StOk.setFresh{K:W.Frag}{F₀ H₀ F H F' H':Hp}{σ:St}{ρ:aX}(s:StOk K F₀ H₀ F H σ ρ){i:Nat}{a:Addr}{o:HO}{c₀:C}(E:Ext F H F' H')(ho:H' a=some o)(nF:F' a=none)(n:H a=none)(h:DenC K F' c₀ o):
 StOk K F₀ H₀ F' H' (σ.set i (some (.ref a))) (ρ.set i (some (.ow c₀))):=by
 have hle:=s.len
 have get:∀(j:Nat) (sl:Sl),(ρ.set i (some (.ow c₀)))[j]? =some (some sl)→(j=i∧i<ρ.length∧sl= .ow c₀)∨(j≠i∧ρ[j]? =some (some sl)):=fun j sl e=>by
  by_cases hj:j=i
  ·subst hj
   have hi:j<ρ.length:=by
    have:=(List.getElem?_eq_some_iff.mp e).1
    simpa using this
   rw[List.getElem?_set_self hi] at e
   cases e
   exact .inl ⟨rfl,hi,rfl⟩
  ·rw[List.getElem?_set_ne (Ne.symm hj)] at e
   exact .inr ⟨hj,e⟩
 have old:∀(j:Nat) (c:C) (b:Addr),ρ[j]? =some (some (.ow c))→σ[j]? =some (some (.ref b))→b≠a:=fun j c b e e' z=>by
  obtain⟨u,h1,b',o,h2,h3,_⟩:=s.st.den j _ e
  rw[h1] at e'
  cases e'
  cases h2
  rw[z,n] at h3
  cases h3
 refine⟨s.ext.trans E,⟨E.fh,fun j sl e=>?_⟩,by simp[hle],fun j c b e e'=>?_,fun j k c c' b e1 e2 e3 e4=>?_⟩
 ·rcases get j sl e with⟨rfl,hi,rfl⟩ | ⟨hj,e⟩
  ·exact⟨.ref a,by rw[List.getElem?_set_self (by omega)],a,_,rfl,ho,nF,h⟩
  ·obtain⟨u,h1,h2⟩:=s.st.den j sl e
   exact⟨u,by rw[List.getElem?_set_ne (Ne.symm hj)];exact h1,h2.ext E⟩
 ·rcases get j _ e with⟨rfl,hi,_⟩ | ⟨hj,e⟩
  ·rw[List.getElem?_set_self (by omega)] at e'
   cases e'
   exact Same.free s.ext.hh n
  ·rw[List.getElem?_set_ne (Ne.symm hj)] at e'
   exact s.own j c b e e'
 ·rcases get j _ e1 with⟨rfl,hi,_⟩ | ⟨hj,e1⟩
  ·rw[List.getElem?_set_self (by omega)] at e3
   cases e3
   rcases get k _ e2 with⟨rfl,_,_⟩ | ⟨hk,e2⟩
   ·rfl
   ·rw[List.getElem?_set_ne (Ne.symm hk)] at e4
    exact absurd rfl (old k c' a e2 e4)
  ·rcases get k _ e2 with⟨K9,hi,_⟩ | ⟨hk,e2⟩
   ·rw[K9,List.getElem?_set_self (by omega)] at e4
    cases e4
    rw[List.getElem?_set_ne (Ne.symm hj)] at e3
    exact absurd rfl (old j c a (by assumption) e3)
   ·rw[List.getElem?_set_ne (Ne.symm hj)] at e3
    rw[List.getElem?_set_ne (Ne.symm hk)] at e4
    exact s.sep j k c c' b e1 e2 e3 e4
theorem WPF.mono{K:W.Frag}{Xw:Nat→Hp→Prop}{F H:Hp}{m:M C}{Q Q':VK}(h:WPF K Xw F H m Q)(k:∀v H',Q v H'→Q' v H'):WPF K Xw F H m Q':=by
 match m,h with
 |none,h=>exact h
 |some (.ok d),h=>exact fun a o H' F' e h1 h2 h3 h4=>k _ _ (h a o H' F' e h1 h2 h3 h4)
 |some (.ex n),h=>exact h
theorem WPF.ext{K:W.Frag}{Xw:Nat→Hp→Prop}{F H F1 H1:Hp}{m:M C}{Q:VK}(e:Ext F H F1 H1)(h:WPF K Xw F H m Q):WPF K Xw F1 H1 m Q:=by
 match m,h with
 |none,h=>exact h
 |some (.ok d),h=>exact fun a o H' F' e' h1 h2 h3 h4=>h a o H' F' (e.trans e') h1 h2 (Same.free e.hh h3) h4
 |some (.ex n),h=>exact fun F2 H2 e2=>h F2 H2 (e.trans e2)
theorem WPF.bind{K:W.Frag}{Xw:Nat→Hp→Prop}{F H:Hp}{m:M D}{k:D→M C}{Q:VK}(h:WPF K Xw F H (m>>=k) Q):WP K Xw F H m fun v H1=>∃F1 d,Ext F H F1 H1∧Den K F1 d v∧WPF K Xw F1 H1 (k d) Q:=by
 match m,h with
 |none,h=>exact h
 |some (.ok d),h=>exact fun v H2 F2 e2 q=>⟨F2,d,e2,q,WPF.ext e2 (show WPF K Xw F H (k d) Q from h)⟩
 |some (.ex n),h=>exact h
section
variable{X:Cx}{Xw:Nat→Hp→Prop}{e k v a b:Expr}{es:List Expr}{δ δ':DF}{δk δv δa δb:DE}{δs:DA}{pos pos' p:Pos}{x:Str}{i:Nat}
theorem BA(hN:X.N.Nodup)(hi:X.N[i]? =some x)(hx:Loc X.env.scope x)(he:Mc X Xw e δ)(hf:X.fn x=true∨X.env.scope.names.lookup x=some .local:=by first | exact .inl rfl | exact .inr rfl)
 (hs:swapsWithSole [.Name x pos'] e pos.line X.env=pure false:=by rfl):
 gS X Xw (.Assign [.Name x pos'] e pos) (BQ i δ):=fun F₀ H₀=>PS.weak (sd he (bc hN hi hx hf) hs) fun D σ H ⟨F,ρ,s,w⟩=>by
 refine⟨F,ρ,s.st,?_⟩
 unfold BQ at w
 match δ ρ,w with
 |none,w=>exact w
 |some (.ok c),w=>exact fun a o H' F' E h1 h2 h3 h4=>w _ F' H' (s.setFresh E h1 h2 h3 h4)
 |some (.ex n),w=>exact fun F' H' e'=>w F' H' (s.ext.trans e')
theorem HD{pins:List (Addr×Obj)}{σ:St}{H H':Hp}{s:Shared}{a:Addr}{y v:V}{u r:Value}{A:Around}{E:Value→Shared→Prop}{Q:Unit→Shared→Prop}(hu:A.units+1<cLine)(I:Inv X pins σ H s)(g:DPut H a y v H')(ry:RelV y u)(rv:RelV v r)(h:∀s',Inv X pins σ H' s'→Q () s'):
 wpAny (model X.prog X.w) A (dictSet a u r) Q E s:=by
 rcases g with⟨aw,k,e,ey,l,eH⟩ | ⟨aw,k,b,e,ey,eb,l,eH⟩
 ·subst ey eH
  obtain⟨z,hd,vs,rel,dd⟩:=Ey I.hok e
  have hz:vs.length≤sizeLine:=by rw[←rel.length];exact z
  have hl:(putK aw k v).length≤sizeLine:=by have:=et aw k v;omega
  refine wpAny_dictSet_pairs (hsz:=hz) (lD ry) dd fun h' zV hs=>h _ ?_
  have he:∃q,h'.get? a=some q:=let ⟨q,_,_,hq,_⟩:=zV;⟨q,hq⟩
  exact jI I (by rw[e];exact True.intro) hs he (zY hl hd (rel.put k rv) zV)
 ·subst ey eH
  cases (show u=Value.ref b from ry)
  obtain⟨z,hd,xs,rel,dd⟩:=zZ I.hok e
  have hz:xs.length≤sizeLine:=by rw[←Paired.length rel];exact z
  have hl:(putK aw k v).length≤sizeLine:=by have:=et aw k v;omega
  refine wpAny_dictSet_heap (knd:=tupleKind (aU X.prog X.w)) (hsz:=hz) (by exact(show A.units<cLine by omega)) (g7 I.hok eb) dd fun h' zV hs=>h _ ?_
  obtain⟨q,es,ep,hq,h2,h3,h4,_,h5⟩:=zV
  refine jI I (by rw[e];exact True.intro) hs ⟨q,hq⟩ ⟨hl,hd,_,(rel.put k eb rv).keeps fun c ys ec=>?_,q,es,ep,hq,h2,h3,h4,h5⟩
  rw[ax (AU ec e (fun z=>nomatch z))]
  exact ec
end
section
variable{X:Cx}{Xw:Nat→Hp→Prop}{e k v a b:Expr}{es:List Expr}{δk δv δa δb:DE}{δs:DA}{pos pos' p:Pos}{x:Str}{i:Nat}
theorem zX{o0:HO}{put:Hp→Addr→V→V→Hp→Prop}(hu:X.A.units+1<cLine)(h0:∀(H:Hp) (h:Heap),sysModules<h.objs.size→ObjOk X.prog X.w H (h.push {cls:= .type "dict",data:= .dict #[]}) h.objs.size o0){tk tv:TE}(hk:PE X k tk)(hv:PE X v tv):
 PE X (.Dict [some k] [v] pos) (fun σ H Q=>∀p,H p=none→tk σ (upd H p o0) fun y H1=>tv σ H1 fun z H2=>∃H3,DPut H2 p y z H3∧Q (.ref p) H3):=by
 intro pins s σ H Q I q
 have hn:=I.hok.fresh (Nat.le_refl s.heap.objs.size)
 have I1:=I.laid (a:=s.heap.objs.size) (o:=o0) (h':=s.heap.push {cls:= .type "dict",data:= .dict #[]}) (t':=s.toks) (fun _ _ q=>Heap.get?_push_of_some _ q) (Nat.le_refl _) (h0 _ s.heap I.big)
 refine wpAny_Dict_any rfl rfl (by simp) (by simp) (bK (By hk hv DU pins _ σ _ (fun ps H2=>∃y z H3,ps=[(y,z)]∧DPut H2 s.heap.objs.size y z H3∧Q (.ref s.heap.objs.size) H3) I1 ?_) fun ws s2 ⟨ps,H2,I2,rel,y,z,H3,ep,g,q2⟩=>?_)
 ·refine ?_
  have:=q _ hn
  show tk σ _ fun y H1=>tv σ H1 fun z H2=>∃y' z' H3,[(y,z)]=[(y',z')]∧DPut H2 s.heap.objs.size y' z' H3∧Q (.ref s.heap.objs.size) H3
  have e:(fun (y:V) (H1:Hp)=>tv σ H1 fun z H2=>∃y' z' H3,[(y,z)]=[(y',z')]∧DPut H2 s.heap.objs.size y' z' H3∧Q (.ref s.heap.objs.size) H3)=(fun y H1=>tv σ H1 fun z H2=>∃H3,DPut H2 s.heap.objs.size y z H3∧Q (.ref s.heap.objs.size) H3):=by
   funext y H1
   congr 1
   funext z H2
   refine propext ⟨fun ⟨y',z',H3,ee,r⟩=>?_,fun⟨H3,r⟩=>⟨y,z,H3,rfl,r⟩⟩
   cases ee
   exact⟨H3,r⟩
  rw[e]
  exact this
 ·subst ep
  cases rel with
  | @cons a b as bs h t=>
    cases t
    obtain⟨r1,r2⟩:=h
    unfold storeAll
    rw[List.forIn_cons]
    refine wpAny_bind (wpAny_bind (HD hu I2 g r1 r2 fun s3 I3=>?_))
    refine wpAny_pure ?_
    show wpAny _ _ (forIn ([]:List (Value×Value)) PUnit.unit _) _ _ _
    rw[List.forIn_nil]
    exact wpAny_pure ⟨V.ref s.heap.objs.size,_,I3,rfl,q2⟩
def pQ(k v:D):M C:=match i7 k with
 |some kk=>M.ret (.dct [kk] [v])
 |none=>M.stuck
theorem zb(hu:X.A.units+64<cLine)(hk:PD X Xw k δk)(hv:PD X Xw v δv):Mc X Xw (.Dict [some k] [v] pos) (fun ρ=>δk ρ>>=fun x=>δv ρ>>=fun y=>pQ x y):=
 PE.weak (zX (o0:= .dT []) (put:=DPut) (by omega) (fun H h hb=>tI h hb) hk hv) fun σ H Q ⟨F,ρ,s,w⟩ q hq=>by
  have e0:=Ext.free (o:= .dT []) s.fh hq
  refine⟨F,ρ,s.ext e0,?_⟩
  have w:WPF X.K Xw F H (δk ρ>>=fun x=>δv ρ>>=fun y=>pQ x y) Q:=w
  match Hb:δk ρ,w with
  |none,w=>exact w
  |some (.ex n),w=>exact fun F' H' e'=>w F' H' (e0.trans e')
  |some (.ok kd),w=>
   intro y H1 F1 e1 q1
   refine⟨F1,ρ,(s.ext e0).ext e1,?_⟩
   have w:WPF X.K Xw F H (δv ρ>>=fun y=>pQ kd y) Q:=w
   match IB:δv ρ,w with
   |none,w=>exact w
   |some (.ex n),w=>exact fun F' H' e'=>w F' H' (e0.trans (e1.trans e'))
   |some (.ok vd),w=>
    intro z H2 F2 e2 q2
    have w3:WPF X.K Xw F H (pQ kd vd) Q:=w
    clear w
    unfold pQ at w3
    cases EK:i7 kd with
    |none=>rw[EK] at w3;exact w3.elim
    |some kk=>
     rw[EK] at w3
     have E:=e1.trans e2
     have Lg:H2 q=some (.dT []):=E.hh _ _ aD
     have Mt:F2 q=none:=by
      have:=E.old (a:=q) (o:= .dT []) aD (fun _ z=>nomatch z)
      rw[this]
      exact Same.free s.fh hq
     unfold i7 at EK
     split at EK
     ·rename_i es
      obtain⟨b,ws,rfl,k2,k3,_⟩:=Den.mono e2.ff q1
      have e5:=jQ EK k3
      subst e5
      refine⟨_,DPut.t (k:=kk) Lg (e2.fh _ _ k2) (by rw[sizeLine_eq];decide),?_⟩
      refine w3 q (.dT (putK [] kk z)) _ F2 ⟨fun c u hc=>?_,(e0.trans E).ff,fun c u hc=>?_,(e0.trans E).new⟩ aD Mt hq ⟨[z],rfl, .cons q2 .nil,rfl,show 1≤lim by decide⟩
      ·rw[ax (fun zz=>by rw[zz,hq] at hc;cases hc)]
       exact(e0.trans E).hh c u hc
      ·rw[ax (fun zz=>by rw[zz,Mt] at hc;cases hc)]
       exact e2.fh c u hc
     ·cases EK
theorem qP{K:W.Frag}{F H:Hp}{d k:D}{x y:V}{o:Option D}(s:Same F H)(hd:Den K F d x)(hk:Den K F k y)(e:zA d k=some o):
 ∃a ov,x= .ref a∧ji H a y ov∧ov.isSome=o.isSome∧∀d',o=some d'→∃v,ov=some v∧Den K F d' v:=by
 obtain⟨a,ov,h1,h2,h3,h4⟩:=w9 (σ:=[some x]) (ρ:=[some (.fz d)]) (i:=0) (H:=H) ⟨s,fun i sl q=>by
  match i,q with
  |0,q=>cases q;exact⟨x,rfl,hd⟩
  |i+1,q=>simp at q⟩ rfl hk e
 cases h1
 exact⟨a,ov,rfl,h2,h3,h4⟩
def gY(neg:Bool)(k d:D):M D:=match zA d k with
 |some o=>M.ret (.bl (if neg then !o.isSome else o.isSome))
 |none=>M.stuck
def GL(neg:Bool):R2:=fun y x H Q=>∃a o,x= .ref a∧ji H a y o∧Q (.bl (if neg then !o.isSome else o.isSome)) H
theorem Gb(hu:X.A.units+64<cLine):OpR X (compareOp .In) (GL false):=fun pins s σ H y x v u Q I ry rx ⟨a,o,ex,g,q⟩=>by
 subst ex
 obtain rfl:u=Value.ref a:=rx
 exact HC (by omega) I g ry fun s' I'=>⟨.bl o.isSome,_,I',rfl,q⟩
theorem y7(hu:X.A.units+64<cLine):OpR X (compareOp .NotIn) (GL true):=fun pins s σ H y x v u Q I ry rx ⟨a,o,ex,g,q⟩=>by
 subst ex
 obtain rfl:u=Value.ref a:=rx
 exact CD (by omega) I g ry fun s' I'=>⟨.bl (!o.isSome),_,I',rfl,q⟩
theorem xG{K:W.Frag}{neg:Bool}:sZ K (GL neg) (gY neg):=fun Xw F H y x dk dd Q s hk hd w=>by
 unfold gY at w
 cases he:zA dd dk with
 |none=>rw[he] at w;exact w.elim
 |some o=>
  rw[he] at w
  obtain⟨a,ov,h1,h2,h3,_⟩:=qP s hd hk he
  refine⟨a,ov,h1,h2,?_⟩
  rw[h3]
  exact WP.now w s rfl
theorem GF(hu:X.A.units+64<cLine)(ha:PD X Xw a δa)(hb:PD X Xw b δb)(hm:behindInMarks .In b=false:=by rfl):ku X Xw (.Compare a [.In] [b] pos) (b9 (d2 (gY false) δa δb)):=dP (Gb hu) xG ha hb hm
theorem qx(hu:X.A.units+64<cLine)(ha:PD X Xw a δa)(hb:PD X Xw b δb)(hm:behindInMarks .NotIn b=false:=by rfl):ku X Xw (.Compare a [.NotIn] [b] pos) (b9 (d2 (gY true) δa δb)):=dP (y7 hu) xG ha hb hm
def jr(d k:D):M D:=match zA d k with
 |some (some v)=>M.ret v
 |_=>M.stuck
theorem rZ(hu:X.A.units+64<cLine)(ha:PD X Xw a δa)(hb:PD X Xw b δb)(hs:Fb b:=by intro _ _;rfl):PD X Xw (.Subscript a b pos) (d2 jr δa δb):=
 PE.weak (DM (by omega) ha hb hs) fun σ H Q ⟨F,ρ,s,w⟩=>by
  refine⟨F,ρ,s,WP.mono (WP.bind w) fun x H1 ⟨F1,d,e1,q1,w1⟩=>?_⟩
  refine⟨F1,ρ,s.ext e1,WP.mono (WP.bind w1) fun y H2 ⟨F2,k,e2,q2,w2⟩=>?_⟩
  unfold jr at w2
  cases he:zA d k with
  |none=>rw[he] at w2;exact w2.elim
  |some o=>
   cases o with
   |none=>rw[he] at w2;exact w2.elim
   |some d'=>
    rw[he] at w2
    obtain⟨a,ov,h1,h2,h3,h4⟩:=qP e2.fh (Den.mono e2.ff q1) q2 he
    obtain⟨v,rfl,hd⟩:=h4 d' rfl
    exact⟨a,v,h1,h2,WP.now w2 e2.fh hd⟩
end
section
variable{X:Cx}{pins:List (Addr×Obj)}{σ:St}{H:Hp}{s:Shared}{h':Heap}
theorem Inv.turnedLaid{t':Nat}{ch:List Addr}{a:Addr}{o:HO}(I:Inv X pins σ H s)(k:∀b q,b∉ch→s.heap.get? b=some q→h'.get? b=some q)(hf:∀b∈ch,o8 X pins H b)(hp:s.heap.objs.size≤a)(new:ObjOk X.prog X.w (upd H a o) h' a o):
 Inv X pins σ (upd H a o) {s with heap:=h',toks:=t'}:=by
 have hn:=I.hok.fresh hp
 have EU:∀b u,H b=some u→b∉ch:=fun b u e z=>by rw[(hf b z).1] at e;cases e
 refine I.step (g':=s.gens) (d':=s.drawn) (ch:=ch) (fun b hb=>?_) (fun b q _ _ hc e _=>k b q hc e) (fun b q _ _ hc e _=>⟨q.slots,k b q hc e⟩) (fun b q hc e n=>?_)
  (fun b q hc e=>⟨q,k b q hc e⟩) (fun b xs e=>?_) (fun b q u e=>?_) (fun b ps e=>⟨#[],?_⟩) (fun m hm=>?_) (fun b u e=>?_) I.bare
 ·obtain⟨f0,f1,f2,f3,f4,f5⟩:=hf b hb
  exact⟨f3,f1,f4,f5⟩
 ·rw[ax (fun z=>by rw[z] at e;exact absurd (Heap.lt_size e) (Nat.not_lt.mpr hp))];exact n
 ·rw[ax (a7 e hn)];exact e
 ·rw[ax (a7 e hn)];exact e
 ·rw[ax (a7 e hn),e];simp
 ·obtain⟨q,es,ep,ho,r⟩:=hm
  exact⟨q,es,ep,k _ q (fun z=>(hf _ z).2.1 rfl) ho,r⟩
 ·by_cases hb:b=a
  ·subst hb;rw[aD] at e;cases e;exact new
  ·rw[ax hb] at e
   refine(I.hok b u e).stay (fun c v hc q=>k c v ?_ q) (fun c q=>by rw[ax (a7 q hn)];exact q) fun c xs q=>by rw[ax (a7 q hn)];exact q
   rcases hc with z | z
   ·rw[z];exact EU b u e
   ·exact EU c _ z
theorem Inv.turnedL{t':Nat}{ch:List Addr}(I:Inv X pins σ H s)(k:∀b q,b∉ch→s.heap.get? b=some q→h'.get? b=some q)(hf:∀b∈ch,o8 X pins H b):Inv X pins σ H {s with heap:=h',toks:=t'}:=by
 have EU:∀b u,H b=some u→b∉ch:=fun b u e z=>by rw[(hf b z).1] at e;cases e
 refine I.step (g':=s.gens) (d':=s.drawn) (ch:=ch) (fun b hb=>?_) (fun b q _ _ hc e _=>k b q hc e) (fun b q _ _ hc e _=>⟨q.slots,k b q hc e⟩) (fun b q hc e n=>n)
  (fun b q hc e=>⟨q,k b q hc e⟩) (fun b xs e=>e) (fun b q u e=>e) (fun b ps e=>⟨#[],by rw[e];simp⟩) (fun m hm=>?_) (fun b u e=>?_) I.bare
 ·obtain⟨f0,f1,f2,f3,f4,f5⟩:=hf b hb
  exact⟨f3,f1,f4,f5⟩
 ·obtain⟨q,es,ep,ho,r⟩:=hm
  exact⟨q,es,ep,k _ q (fun z=>(hf _ z).2.1 rfl) ho,r⟩
 ·refine(I.hok b u e).stay (fun c v hc q=>k c v ?_ q) (fun c q=>q) fun c xs q=>q
  rcases hc with z | z
  ·rw[z];exact EU b u e
  ·exact EU c _ z
end
def L9(K:W.Frag)(a:Addr):It:=
 ⟨fun i H=>∃xs x,SqL K H a xs∧xs[i]? =some x,fun i H x H'=>∃p,x= .ref p∧H p=none∧∃v,(∀xs,SqL K H a xs→xs[i]? =some v)∧H'=upd H p (.tup [.int (i:Int),v]),fun i H=>∃xs,SqL K H a xs∧xs.length≤i⟩
theorem zt{P:Program}{w:World}{K:W.Frag}{es:List Expr}{x1}{tp:Pos}(l e it:Addr)(ME:e≠it):
 Turn P w K (.Tuple es x1 tp) (L9 K l) [e,it] e (fun i h=>∃old,IsEnum h e it (i:Int) old∧h.IsListIter it l i) where
 mem:=by simp
 obj:=fun i h ⟨old,vk,wG⟩ b hb=>by
  rcases List.mem_cons.mp hb with z | z
  ·subst z;exact⟨_,vk,fun v z=>nomatch z⟩
  ·have z:b=it:=by simpa using z
   subst z
   obtain⟨o,e1,c,d⟩:=wG
   exact⟨o,e1,fun v z=>by rw[d] at z;cases z⟩
 keep:=fun i h h' ⟨old,vk,wG⟩ k=>⟨old,k e (by simp) _ vk,wG.at fun o q=>k it (by simp) o q⟩
 item:=by
  intro X hP hw hK hc i pins s σ H E I hf st hg
  subst hP hw hK
  obtain⟨old,vk,wG⟩:=st
  obtain⟨xs,x,hq,hx⟩:=hg
  obtain⟨aB,rv,p,hz⟩:=I.list hq
  obtain⟨u,hu,ru⟩:=rv.get hx
  refine wpAny_pyNext_enum_item vk wG p.isList (x:=u) (by simpa using hu) ME fun h1 k1 k2 k3 k4 k5=>?_
  refine⟨_,rfl,wpAny_letOwnedTupleGo_enum k1 fun h2 m1 m2=>?_⟩
  have g0:s.heap.objs.size≠e:=Nat.ne_of_gt (Heap.lt_size vk)
  have B8:h2.get? s.heap.objs.size=some {cls:= .type "tuple",data:= .seq #[.int i s.toks,u]}:=(m2.2 _ g0).trans k3
  have keep:∀b q,b∉[e,it]→s.heap.get? b=some q→h2.get? b=some q:=fun b q hb e1=>by
   have HV:b≠e:=fun z=>hb (by simp[z])
   have KO:b≠it:=fun z=>hb (by simp[z])
   exact(m2.2 b HV).trans (k5 b q HV KO e1)
  have I2:Inv X pins σ (upd H s.heap.objs.size (.tup [.int (i:Int),x])) {s with heap:=h2,toks:=s.toks+1}:=by
   refine Inv.turnedLaid (s:=s) I keep hf (Nat.le_refl _) ⟨?_,[.int i s.toks,u], .cons ⟨_,rfl⟩ (.cons ru .nil),_,B8,rfl,_,rfl⟩
   rw[sizeLine_eq];show 2≤_;decide
  refine⟨.ref s.heap.objs.size,_,I2,rfl,⟨_,rfl,I.hok.fresh (Nat.le_refl _),x,fun ys hy=>by rw[I.list_inj hy hq];exact hx,rfl⟩,⟨u,?_,?_⟩,fun b hb=>?_⟩
  ·have:((i+1:Nat):Int)=(i:Int)+1:=by push_cast;rfl
   rw[this];exact m1
  ·exact k2.at fun o q=>(m2.2 it (Ne.symm ME)).trans q
  ·rw[ax (fun z=>by
    rcases List.mem_cons.mp hb with y | y
    ·exact absurd (Heap.lt_size vk) (by rw[←y,z];exact Nat.lt_irrefl _)
    ·have y:b=it:=by simpa using y
     obtain⟨o,q1,_⟩:=id wG
     exact absurd (Heap.lt_size q1) (by rw[←y,z];exact Nat.lt_irrefl _))]
   exact(hf b hb).1
 done:=by
  intro X hP hw hK hc i pins s σ H E I hf st hg
  subst hP hw hK
  obtain⟨old,vk,wG⟩:=st
  obtain⟨xs,hq,hx⟩:=hg
  obtain⟨aB,rv,p,hz⟩:=I.list hq
  have hl:=rv.length
  exact wpAny_pyNext_enum_end (I.ok.hd hc) vk wG p.isList (by simp;omega) fun h' eb=>⟨rfl,Inv.turnedL (t':=s.toks) (ch:=[it]) I (fun b q hb e1=>eb b q (fun z=>hb (by simp[z])) e1) fun b hb=>hf b (List.mem_cons_of_mem _ hb)⟩
 self:=fun A i s Q E st h=>by
  obtain⟨old,vk,wG⟩:=st
  exact wpAny_pyIter_enum vk h
theorem AD{K:W.Frag}{F:Hp}{a:Addr}{vs:List V}{ds:List D}(h:SqL K F a vs)(hd:DenL K F ds vs):ItD K F (L9 K a) (ds.mapIdx fun i d=> .tup [.int (i:Int),d]):=fun F' H' i s1 s2=>by
 have hs:=Same.seq s2 (Same.seq s1 h)
 refine⟨fun d e=>?_,fun hl=>⟨vs,hs,by rw[List.length_mapIdx,hd.len] at hl;exact hl⟩⟩
 rw[List.getElem?_mapIdx] at e
 cases q:ds[i]? with
 |none=>rw[q] at e;cases e
 |some d0=>
  rw[q] at e
  cases e
  obtain⟨v,e1,q1⟩:=hd.get q
  refine⟨⟨vs,v,hs,e1⟩,fun x H'' ⟨p,y1,y2,u,y3,y4⟩=>?_⟩
  subst y1 y4
  have:=y3 vs hs
  rw[e1] at this
  cases this
  have E:=Ext.lay (o:= .tup [.int (i:Int),v]) s2 y2
  exact⟨_,E,p,_,rfl,aD, .cons rfl (.cons (Den.mono E.ff (Den.mono s1 q1)) .nil),by show 2≤lim;decide⟩
section
variable{X:Cx}{Xw:Nat→Hp→Prop}{tg e:Expr}{es:List Expr}{δ δi:DE}{δs:DA}{pos p tp:Pos}{x1:Nat}
def xh:List D→M (List D)
 |[.lst ds]=>M.ret (ds.mapIdx fun i d=> .tup [.int (i:Int),d])
 |_=>M.stuck
theorem Bh(hg:Gl X "enumerate")(hm:X.mg "enumerate"=none)(ha:lu X Xw [e] δs)(hs:starEach [e] X.env=[(false,eval e X.env)]:=by rfl):ve X Xw (.Tuple es x1 tp) (.Call (.Name "enumerate" p) [e] [] pos) (fun ρ=>δs ρ>>=xh):=by
 intro pins s σ H R I ⟨F,ρ,S,w⟩
 refine Call_ (jt I hg hm (show bootBuiltins "enumerate"=some (.type "enumerate") from rfl) (PyProof.Rows.callWith_type1 (bK (ha pos pins s σ H (fun vs H1=>∃F1 ds,Ext F H F1 H1∧DenL X.K F1 ds vs∧WPI X.K Xw F1 H1 (xh ds) R) I ⟨F,ρ,S,WPI.bindL w⟩) fun us s1 ⟨vs,H1,I1,r1,F1,ds,e1,q1,w1⟩=>?_) hs rfl))
 unfold xh at w1
 split at w1
 ·rename_i ds
  obtain⟨v,rfl,h1⟩:=q1.one
  obtain⟨a,xs,rfl,h2,h3,h4⟩:=h1
  obtain⟨u,rfl,r2⟩:=r1.one
  cases (show u=_ from r2)
  obtain⟨aB,rv,pl,hz⟩:=I1.list (SqL.of (K:=X.K) (e1.fh _ _ h2))
  refine call_enumerate_list pl.isList fun h' k1 k2 k3 k4=>?_
  refine wpAny_pyIter_enum k1 ?_
  refine⟨s1.heap.objs.size+1,[s1.heap.objs.size+1,s1.heap.objs.size],_,_,H1,rfl,I1.kept (t':=s1.toks) fun b o e=>k4 b o e,zt a _ _ (Nat.ne_of_gt (Nat.lt_succ_self _)),⟨.none,k1,k2⟩,fun b hb=>?_,w1 _ _ _ (Ext.refl e1.fh) (AD (SqL.of h2) h3)⟩
  have e:s1.heap.objs.size≤b:=by
   rcases List.mem_cons.mp hb with z | z
   ·rw[z];exact Nat.le_succ _
   ·have z:b=s1.heap.objs.size:=by simpa using z
    rw[z];exact Nat.le_refl _
  exact I1.fpOk e (I1.hok.fresh e)
 ·exact w1.elim
end
def C6:Key→D
 | .inl i=> .int i
 | .inr x=> .str x
def Ep(H:Hp)(d:Addr)(od:Obj)(i:Nat)(x:V):Prop:=
 (∃aw k b,H d=some (.frz od (.dT aw))∧(aw.map (·.1))[i]? =some k∧x= .ref b∧H b=some (.tup (k.map kV)))∨
 ∃aw k,H d=some (.frz od (.dK aw))∧(aw.map (·.1))[i]? =some k∧x=kV k
def L8(d:Addr)(od:Obj):It:=
 ⟨fun i H=>(∃aw,H d=some (.frz od (.dT aw))∧i<aw.length)∨∃aw,H d=some (.frz od (.dK aw))∧i<aw.length,fun i H x H'=>H'=H∧Ep H d od i x,
  fun i H=>(∃aw,H d=some (.frz od (.dT aw))∧aw.length≤i)∨∃aw,H d=some (.frz od (.dK aw))∧aw.length≤i⟩
theorem md{α β γ:Type}{R:α→β→Prop}{f:α→γ}{g:β→γ}(h:∀a b,R a b→f a=g b):∀{l:List α}{m:List β},Paired R l m→l.map f=m.map g
 |_,_, .nil=>rfl
 |_,_, .cons r t=>by rw[List.map_cons,List.map_cons,h _ _ r,md h t]
theorem gx{α β:Type}{R:α→β→Prop}:∀{l:List α}{m:List β}{i:Nat}{a:α},Paired R l m→l[i]? =some a→∃b,m[i]? =some b∧R a b
 |_,_,i,_, .nil,e=>by simp at e
 |_,_,0,_, .cons r t,e=>by simp at e;subst e;exact⟨_,rfl,r⟩
 |_,_,i+1,_, .cons r t,e=>by
  obtain⟨b,e1,e2⟩:=gx (i:=i) t (by simpa using e)
  exact⟨b,by simpa using e1,e2⟩
theorem y_{prog:Program}{w:World}{κ:Type}[DecidableEq κ]{knd:KeyKind prog w κ}:∀{es:List DictEntry}{aw:List (κ×Value)}{i:Nat}{kv:κ×Value},Pairs knd es aw→aw[i]? =some kv→∃e,es[i]? =some e∧knd.is kv.1 e.key=true:=by
 intro es aw i kv h e
 induction h generalizing i with
 |nil=>simp at e
 | @cons en O_ EA OH h1 h2 h3 ih=>
   cases i with
   |zero=>simp at e;subst e;exact⟨en,rfl,h1⟩
   |succ i=>
    obtain⟨q,e1,e2⟩:=ih (i:=i) (by simpa using e)
    exact⟨q,by simpa using e1,e2⟩
theorem FY{k:Key}{u:Value}(h:nJ k u=true):RelV (kV k) u:=by
 rcases bI h with⟨i,t,rfl,rfl⟩ | ⟨x,t,rfl,rfl⟩
 ·exact⟨t,rfl⟩
 ·exact⟨t,rfl⟩
theorem nh{X:Cx}{pins:List (Addr×Obj)}{σ:St}{H:Hp}{s:Shared}{d:Addr}{od:Obj}{n:Nat}(I:Inv X pins σ H s)
 (h:(∃aw,H d=some (.frz od (.dT aw))∧n=aw.length)∨∃aw,H d=some (.frz od (.dK aw))∧n=aw.length):
 ∃es ep,(d==sysModules)=false∧s.heap.get? d=some od∧od.ExactDict∧od.data= .dict es ep∧es.size=n∧∀i,i<n→∃e x,es[i]? =some e∧RelV x e.key∧Ep H d od i x:=by
 rcases h with⟨aw,e,rfl⟩ | ⟨aw,e,rfl⟩
 ·obtain⟨ho,z,lo,xs,rel,o,es,ep,h1,h2,h3,h4,h5⟩:=(show ObjOk X.prog X.w H s.heap d (.frz od (.dT aw)) from I.hok d _ e)
  rw[ho] at h1
  cases h1
  have hl:es.size=aw.length:=by
   rw[←Array.length_toList,h4,List.length_map]
   exact(Paired.length rel).symm
  refine⟨es,ep,lo,ho,h2,h3,hl,fun i hi=>?_⟩
  obtain⟨q,e1,e2,e3,e4⟩:=gx rel (List.getElem?_eq_getElem hi)
  refine⟨entryOfKey (tupleKind (aU X.prog X.w)) q, .ref q.2.1,?_,rfl, .inl ⟨aw,aw[i].1,q.2.1,e,?_,rfl,e3⟩⟩
  ·rw[←Array.getElem?_toList,h4,List.getElem?_map,e1]
   rfl
  ·rw[List.getElem?_map,List.getElem?_eq_getElem hi]
   rfl
 ·obtain⟨ho,z,lo,vs,rel,o,es,ep,h1,h2,h3,h4,h5,h6⟩:=(show ObjOk X.prog X.w H s.heap d (.frz od (.dK aw)) from I.hok d _ e)
  rw[ho] at h1
  cases h1
  have hl:es.size=aw.length:=by
   rw[←Array.length_toList,h5.length]
   exact(Paired.length rel).symm
  refine⟨es,ep,lo,ho,h2,h3,hl,fun i hi=>?_⟩
  obtain⟨q,e1,e2,e3⟩:=gx rel (List.getElem?_eq_getElem hi)
  obtain⟨en,e4,e5⟩:=y_ h5 e1
  refine⟨en,kV aw[i].1,by rw[←Array.getElem?_toList];exact e4,?_, .inr ⟨aw,aw[i].1,e,by rw[List.getElem?_map,List.getElem?_eq_getElem hi];rfl,rfl⟩⟩
  rw[e2]
  exact FY e5
theorem zu{P:Program}{w:World}{K:W.Frag}{tg:Expr}(d it:Addr)(od:Obj)(es:Array DictEntry)(ep:Nat)(gR:od.data= .dict es ep):
 Turn P w K tg (L8 d od) [it] it (fun i h=>h.IsKeyIter it d i es.size ep) where
 mem:=by simp
 obj:=fun i h st b hb=>by
  have e:b=it:=by simpa using hb
  subst e
  obtain⟨o,e,c,dd⟩:=st
  exact⟨o,e,fun v z=>by rw[dd] at z;cases z⟩
 keep:=fun i h h' st k=>st.at fun o e=>k it (by simp) o e
 item:=by
  intro X hP hw hK hc i pins s σ H E I hf st hg
  subst hP hw hK
  obtain⟨n,hn,hi⟩:∃n,((∃aw,H d=some (.frz od (.dT aw))∧n=aw.length)∨∃aw,H d=some (.frz od (.dK aw))∧n=aw.length)∧i<n:=by
   rcases hg with⟨aw,e,hi⟩ | ⟨aw,e,hi⟩
   ·exact⟨_, .inl ⟨aw,e,rfl⟩,hi⟩
   ·exact⟨_, .inr ⟨aw,e,rfl⟩,hi⟩
  obtain⟨EA,z6,lo,ho,hx,mB,hsz,hk⟩:=nh I hn
  rw[gR] at mB
  cases mB
  obtain⟨en,x,e1,rx,ka⟩:=hk i hi
  obtain⟨f0,f1,f2,f3,f4,f5⟩:=hf it (by simp)
  refine ud st ho gR e1 fun h' oM sb=>?_
  have I1:Inv X pins σ H {s with heap:=h'}:=I.turned (t':=s.toks) (fun b o hb e=>(sb.2 b hb).trans e) f0 f1 f3 f4 f5
  obtain⟨o,e2,c,dd⟩:=id oM
  exact⟨_,rfl,pV (s:={s with heap:=h'}) e2 c dd (by decide) ⟨x,H,I1,rx,⟨rfl,ka⟩,oM,fun b hb=>(hf b hb).1⟩⟩
 done:=by
  intro X hP hw hK hc i pins s σ H E I hf st hg
  subst hP hw hK
  obtain⟨n,hn,hi⟩:∃n,((∃aw,H d=some (.frz od (.dT aw))∧n=aw.length)∨∃aw,H d=some (.frz od (.dK aw))∧n=aw.length)∧n≤i:=by
   rcases hg with⟨aw,e,hi⟩ | ⟨aw,e,hi⟩
   ·exact⟨_, .inl ⟨aw,e,rfl⟩,hi⟩
   ·exact⟨_, .inr ⟨aw,e,rfl⟩,hi⟩
  obtain⟨EA,z6,lo,ho,hx,mB,hsz,hk⟩:=nh I hn
  rw[gR] at mB
  cases mB
  obtain⟨f0,f1,f2,f3,f4,f5⟩:=hf it (by simp)
  exact pR (I.ok.hd hc) st (by omega) ho gR fun h' eb=>⟨rfl,I.turned (t':=s.toks) (fun b o hb e=>eb b o hb e) f0 f1 f3 f4 f5⟩
 self:=fun _ _ _ _ _ st h=>wpAny_pyIter_keyiter st h
def tupK(k:List Key):D:= .tup (k.map C6)
def lV:Key→Bool
 | .inl _=>true
 | .inr x=>decide (x.length≤lim)
def lF:D→M (List D)
 | .dct ks _=>if ks.all (fun k=>decide (k.length≤lim)&&k.all lV) then M.ret (ks.map tupK) else M.stuck
 | .dci ks _=>if ks.all lV then M.ret (ks.map C6) else M.stuck
 |_=>M.stuck
theorem t5{K:W.Frag}{F:Hp}{k:Key}(h:lV k=true):Den K F (C6 k) (kV k):=by
 cases k with
 |inl i=>exact rfl
 |inr x=>exact⟨rfl,of_decide_eq_true h⟩
theorem kI{K:W.Frag}{F:Hp}:∀{k:List Key},k.all lV=true→DenL K F (k.map C6) (k.map kV)
 |[],_=>rfl
 |x::k,h=>by
  rw[List.all_cons,Bool.and_eq_true] at h
  exact .cons (t5 h.1) (kI h.2)
theorem AE{K:W.Frag}{F:Hp}{a:Addr}{ob:Obj}{d:D}{ds:List D}(hd:Den K F d (.ref a))(hF:∃u,F a=some (.frz ob u))(e:lF d=M.ret ds):ItD K F (L8 a ob) ds:=fun F' H' i s1 s2=>by
 unfold lF at e
 split at e
 ·rename_i ks es
  split at e
  ·rename_i hok
   obtain rfl:=fJ e
   obtain⟨a',OK,vs,z,h2,h3,h4,h5⟩:=hd
   cases z
   obtain⟨u,hu⟩:=hF
   rw[h2] at hu
   cases hu
   have hh:=s2 _ _ (s1 _ _ h2)
   have hz:=i3 (a:=ks) (b:=vs) (by rw[h4];exact h3.len)
   have hl:(ks.zip vs).length=ks.length:=by rw[←List.length_map (f:=(·.1)),hz]
   refine⟨fun d e=>?_,fun hle=> .inl ⟨_,hh,by rw[hl];simpa using hle⟩⟩
   rw[List.getElem?_map] at e
   cases q:ks[i]? with
   |none=>rw[q] at e;cases e
   |some k=>
    rw[q] at e
    cases e
    have hi:=(List.getElem?_eq_some_iff.mp q).1
    refine⟨.inl ⟨_,hh,by rw[hl];exact hi⟩,fun x H'' ⟨y1,y2⟩=>?_⟩
    subst y1
    have hk:=List.all_eq_true.mp hok k (List.mem_of_getElem? q)
    rw[Bool.and_eq_true] at hk
    rcases y2 with⟨aw,k',b,q1,q2,rfl,q3⟩ | ⟨aw,k',q1,q2,rfl⟩
    ·rw[hh] at q1
     cases q1
     rw[hz,q] at q2
     cases q2
     have E:=Ext.tup (F:=F') s2 q3
     exact⟨_,E,b,_,rfl,aD,kI hk.2,by rw[List.length_map];exact of_decide_eq_true hk.1⟩
    ·rw[hh] at q1;cases q1
  ·exact(iG e).elim
 ·rename_i ks es
  split at e
  ·rename_i hok
   obtain rfl:=fJ e
   obtain⟨a',OK,vs,z,h2,h3,h4,h5⟩:=hd
   cases z
   obtain⟨u,hu⟩:=hF
   rw[h2] at hu
   cases hu
   have hh:=s2 _ _ (s1 _ _ h2)
   have hz:=i3 (a:=ks) (b:=vs) (by rw[h4];exact h3.len)
   have hl:(ks.zip vs).length=ks.length:=by rw[←List.length_map (f:=(·.1)),hz]
   refine⟨fun d e=>?_,fun hle=> .inr ⟨_,hh,by rw[hl];simpa using hle⟩⟩
   rw[List.getElem?_map] at e
   cases q:ks[i]? with
   |none=>rw[q] at e;cases e
   |some k=>
    rw[q] at e
    cases e
    have hi:=(List.getElem?_eq_some_iff.mp q).1
    refine⟨.inr ⟨_,hh,by rw[hl];exact hi⟩,fun x H'' ⟨y1,y2⟩=>?_⟩
    subst y1
    have hk:=List.all_eq_true.mp hok k (List.mem_of_getElem? q)
    rcases y2 with⟨aw,k',b,q1,q2,rfl,q3⟩ | ⟨aw,k',q1,q2,rfl⟩
    ·rw[hh] at q1;cases q1
    ·rw[hh] at q1
     cases q1
     rw[hz,q] at q2
     cases q2
     exact⟨F',Ext.refl s2,t5 hk⟩
  ·exact(iG e).elim
 ·exact(iG e).elim
section
variable{X:Cx}{Xw:Nat→Hp→Prop}{tg l:Expr}{δ:DE}
theorem Bi(h:PD X Xw l δ):ve X Xw tg l (fun ρ=>δ ρ>>=lF):=by
 intro pins s σ H R I ⟨F,ρ,S,w⟩
 refine bK (h pins s σ H (fun v H1=>∃F1 d,Ext F H F1 H1∧Den X.K F1 d v∧WPI X.K Xw F1 H1 (lF d) R) I ⟨F,ρ,S,WPI.bind w⟩) fun u s1 ⟨v,H1,I1,r1,F1,d,e1,q1,w1⟩=>?_
 rcases(lF d).cs with z | ⟨n,z⟩ | ⟨ds,z⟩
 ·rw[z] at w1;exact w1.elim
 ·exfalso
  unfold lF at z
  split at z
  ·split at z<;>cases z
  ·split at z<;>cases z
  ·cases z
 ·rw[z] at w1
  obtain⟨a,ob,u',rfl,hF,hn⟩:∃a ob u',v= .ref a∧F1 a=some (.frz ob u')∧∃n,((∃aw,H1 a=some (.frz ob (.dT aw))∧n=aw.length)∨∃aw,H1 a=some (.frz ob (.dK aw))∧n=aw.length):=by
   unfold lF at z
   split at z
   ·obtain⟨a,ob,vs,e,h2,_⟩:=q1;exact⟨a,ob,_,e,h2,_, .inl ⟨_,e1.fh _ _ h2,rfl⟩⟩
   ·obtain⟨a,ob,vs,e,h2,_⟩:=q1;exact⟨a,ob,_,e,h2,_, .inr ⟨_,e1.fh _ _ h2,rfl⟩⟩
   ·exact(iG z).elim
  obtain⟨n,hn⟩:=hn
  cases (show u=_ from r1)
  obtain⟨es,ep,lo,ho,hx,hd,hsz,hk⟩:=nh I1 hn
  refine p6 lo ho hx hd ?_
  refine⟨s1.heap.objs.size,[s1.heap.objs.size],_,_,H1,rfl,I1.kept (t':=s1.toks) fun b o e=>Heap.get?_push_of_some _ e,zu a _ ob es ep hd,⟨_,Heap.get?_push_size _ rfl,rfl,rfl⟩,fun b hb=>?_,w1 _ _ _ (Ext.refl e1.fh) (AE q1 ⟨_,hF⟩ z)⟩
  have e:b=s1.heap.objs.size:=by simpa using hb
  subst e
  exact I1.fpOk (Nat.le_refl _) (I1.hok.fresh (Nat.le_refl _))
end
end L3
namespace L3
open PySem
section
variable{prog:Program}{w:World}{K:Type}[DecidableEq K]{knd:HeapKind prog w K}{A:Around}{E:Value→Shared→Prop}{s:Shared}
theorem oI{d a:Addr}{xs:List (K×Addr×Value)}{k:K}{v:Value}{Q:Unit→Shared→Prop}(hu:knd.room A)(CO:knd.is s.heap k a)(hm:s.heap.DictOfH knd d xs)(hsz:xs.length≤sizeLine)
 (hQ:∀h',h'.DictOfH knd d (storedH xs k a v)→Heap.SameBut d s.heap h'→Q () {s with heap:=h'}):wpAny (model prog w) A (dictSetHashed d (.ref a) (knd.hash k) v) Q E s:=by
 obtain⟨o,es,ep,ho,hc,hd,he,K7,hn⟩:=hm
 unfold dictSetHashed
 refine wpAny_holding (wpAny_bind (wpAny_dictFind_heap hu CO ho hd he K7 hn (fun vJ=>?_) fun j p hj=>?_))
 ·have e0:=atKey_none_of_get vJ
  have hz:es.size≤sizeLine:=by rw[size_of_entries he];exact hsz
  refine wpAny_bind (wpAny_rule (wpAny_updateDictKeys (hz:=hz) ho hd (hQ _ ?_ (Heap.SameBut.update ..))))
  rw[storedH_new e0]
  refine⟨_,_,ep+1,Heap.get?_update_self _ ho (Obj.isFreed_of_dict (Obj.data_mapDictKeys hd _)),hc.mapDictKeys _,Obj.data_mapDictKeys hd _,by simp[he,entryOfKey],fun x hx=>?_,?_⟩
  ·rcases List.mem_append.mp hx with hx | hx
   ·exact knd.keeps (K7 x hx) ho hd (Heap.SameBut.update ..)
   ·obtain rfl:x=(k,a,v):=by simpa using hx
    exact knd.keeps CO ho hd (Heap.SameBut.update ..)
  ·rw[List.map_append]
   refine List.nodup_append.mpr ⟨hn,by simp,fun x hx y hy z=>?_⟩
   have hy:y=k:=by simpa using hy
   exact not_mem_keys_of_get vJ (by rw[←hy,←z];exact hx)
 ·have e0:=atKey_of_get hn hj
  refine wpAny_bind (wpAny_rule (wpAny_bind (wpAny_updateDict ho hd (wpAny_point (hQ _ ?_ (Heap.SameBut.update ..))))))
  rw[storedH_old e0]
  refine⟨_,_,ep,Heap.get?_update_self _ ho (Obj.isFreed_of_dict (Obj.data_mapDict hd _)),hc.mapDict _,Obj.data_mapDict hd _,?_,fun x hx=>?_,by rw[keys_map_putAt];exact hn⟩
  ·have:=modify_map_putAt (entryOfKey knd) (fun e:DictEntry=>{e with val:=v}) k v (fun _ _=>rfl) hn hj
   rw[←he] at this
   obtain⟨l⟩:=es
   simpa using this
  ·obtain⟨y,hy,rfl⟩:=List.mem_map.mp hx
   unfold putAt
   split<;>exact knd.keeps (K7 y hy) ho hd (Heap.SameBut.update ..)
def cI(xs ys:List (K×Addr×Value)):List (K×Addr×Value):=ys.foldl (fun acc y=>storedH acc y.1 y.2.1 y.2.2) xs
theorem uT(xs:List (K×Addr×Value))(k:K)(a:Addr)(v:Value):(storedH xs k a v).length≤xs.length+1:=by
 unfold storedH;split<;>simp
theorem lH:∀(ys xs:List (K×Addr×Value)),(cI xs ys).length≤xs.length+ys.length
 |[],xs=>Nat.le_refl _
 |y::ys,xs=>by
  have h1:=lH ys (storedH xs y.1 y.2.1 y.2.2)
  have h2:=uT xs y.1 y.2.1 y.2.2
  show (cI (storedH xs y.1 y.2.1 y.2.2) ys).length≤_
  rw[List.length_cons];omega
theorem rB{xs ys:List (K×Addr×Value)}{i:Nat}{y:K×Addr×Value}(h:ys[i]? =some y):cI xs (ys.take (i+1))=storedH (cI xs (ys.take i)) y.1 y.2.1 y.2.2:=by
 rw[List.take_add_one,h]
 unfold cI
 rw[List.foldl_append]
 rfl
theorem lI:∀(ys acc:List (K×Addr×Value)),((acc++ys).map (·.1)).Nodup→cI acc ys=acc++ys
 |[],acc,_=>by simp[cI]
 |y::ys,acc,hn=>by
  show cI (storedH acc y.1 y.2.1 y.2.2) ys=_
  have Lb:y.1∉acc.map (·.1):=fun h=>by
   rw[List.map_append] at hn
   exact(List.nodup_append.mp hn).2.2 _ h _ (by simp) rfl
  have e0:atKey acc y.1=none:=atKey_none_of_get fun j p hj=>Lb (List.mem_map.mpr ⟨_,List.mem_of_getElem? hj,rfl⟩)
  rw[storedH_new e0,lI ys (acc++[(y.1,y.2.1,y.2.2)]) (by simpa using hn)]
  simp
theorem q9{id:String}{o:Addr}{ob:Obj}{es:Array DictEntry}{ep:Nat}{Q:Array DictEntry→Shared→Prop}(ho:s.heap.get? o=some ob)(hd:ob.data= .dict es ep)
 (hq:∀e∈es.toList,∃a,e.key= .ref a∧s.TypeIs (.ref a) "tuple")(hh:∀e∈es.toList,(es.filter (·.hash==e.hash)).size≤1)(h:Q es s):wpAny (model prog w) A (Builtin.Dict.entriesForEmpty id o) Q E s:=by
 unfold Builtin.Dict.entriesForEmpty
 refine wpAny_bind (wpAny_dictEntries ho hd ?_)
 rw[←Array.forIn_toList]
 refine wpAny_bind (wpAny_forIn_list _ (fun rest _ s'=>s'=s∧∀e∈rest,e∈es.toList) _ ?_ ?_ _ _ ⟨rfl,fun _ h=>h⟩)
 ·rintro e rest b s' ⟨rfl,hr⟩
  obtain⟨a,ea,ta⟩:=hq e (hr e (List.mem_cons_self ..))
  have hf:=hh e (hr e (List.mem_cons_self ..))
  have eZ:¬((es.filter (·.hash==e.hash)).size>1):=by omega
  rw[ea]
  unfold Builtin.Dict.quietEq
  refine wpAny_bind (wpAny_bind (wpAny_specialOf ta F.slot_tuple_eq.lookup (wpAny_pure ?_)))
  simp only[eZ,if_false]
  have:(some (Value.builtin "tuple.__eq__")==some (Value.builtin "object.__eq__"))=false:=by decide
  simp only[this,Bool.not_false,if_true]
  exact wpAny_pure ⟨rfl,fun x hx=>hr x (List.mem_cons_of_mem _ hx)⟩
 ·rintro b s' ⟨rfl,_⟩
  exact wpAny_pure h
theorem nT{nm:String}{d o:Addr}{xs ys:List (K×Addr×Value)}{Q:Unit→Shared→Prop}(hu:knd.room A)(MD:d≠o)(Oa:(o==sysModules)=false)(hd:s.heap.DictOfH knd d xs)(ho:s.heap.DictOfH knd o ys)
 (NX:∀{h:Heap}{k:K}{a:Addr},knd.is h k a→∃ob,h.get? a=some ob∧ob.cls= .type "tuple")(hh:xs=[]→(ys.map fun y=>knd.hash y.1).Nodup)(hsz:xs.length+ys.length≤sizeLine)
 (hQ:∀h',h'.DictOfH knd d (cI xs ys)→Heap.SameBut d s.heap h'→Q () {s with heap:=h'}):wpAny (model prog w) A (Builtin.Dict.mergeDict nm d o) Q E s:=by
 obtain⟨od,Nm,Nk,rk,vh,gR,NL,O5,FG⟩:=id hd
 obtain⟨oo,vE,Nl,Io,O3,yA,zD,K6,vJ⟩:=id ho
 have hlen:=size_of_entries zD
 unfold Builtin.Dict.mergeDict
 rw[if_neg (by simpa using MD)]
 unfold Builtin.Dict.showsAll
 rw[if_neg (by rw[Oa];exact Bool.false_ne_true)]
 refine wpAny_bind (wpAny_pure (wpAny_bind (wpAny_dictEntries Io yA ?_)))
 have loop:∀(body:Nat→PUnit→Sem (ForInStep PUnit)),body=(fun i (_:PUnit)=>(do
       let l'←dictEntries o
       match l'[i]? with
        |some e=>do
         holding [e.key,e.val] (dictSetHashed d e.key e.hash e.val)
         let z6←dictEpoch o
         if (z6 !=Nl)=true then do (unsupported (toString nm++toString ":source-changed-during-callback"):Sem PUnit);pure (ForInStep.yield PUnit.unit) else pure (ForInStep.yield PUnit.unit)
        |_=>do
         (unsupported "internal:dict-merge":Sem PUnit)
         pure (ForInStep.yield PUnit.unit):Sem (ForInStep PUnit)))→wpAny (model prog w) A (forIn [:vE.size] PUnit.unit body) (fun _ s'=>Q () s') E s:=by
  rintro _ rfl
  rw[Std.Legacy.Range.forIn_eq_forIn_range']
  simp only[Std.Legacy.Range.size,Nat.sub_zero,Nat.add_sub_cancel,Nat.div_one]
  refine wpAny_forIn_list _ (fun rest _ s'=>∃h' i,s'={s with heap:=h'}∧rest=List.range' i (vE.size - i)∧i≤vE.size∧h'.DictOfH knd d (cI xs (ys.take i))∧h'.get? o=some oo∧Heap.SameBut d s.heap h') _ ?_ ?_ _ _
   ⟨s.heap,0,rfl,by simp,Nat.zero_le _,by simpa[cI] using hd,Io,Heap.SameBut.refl _ _⟩
  ·rintro x rest b s' ⟨h',i,rfl,hr,hi,mB,FI,vL⟩
   have eZ:i<vE.size:=by
    by_cases h:i<vE.size
    ·exact h
    ·rw[show vE.size - i=0 by omega] at hr;simp at hr
   rw[show vE.size - i=(vE.size - (i+1))+1 by omega,List.range'_succ] at hr
   injection hr with h1 h2
   subst h1
   refine wpAny_bind (wpAny_dictEntries FI yA ?_)
   obtain⟨y,hy⟩:∃y,ys[x]? =some y:=⟨_,List.getElem?_eq_getElem (by omega)⟩
   rw[entry_at zD x,hy]
   have N6:(cI xs (ys.take x)).length≤sizeLine:=by
    have e1:=lH (ys.take x) xs
    rw[List.length_take] at e1
    omega
   have NY:knd.is h' y.1 y.2.1:=knd.keeps (K6 y (List.mem_of_getElem? hy)) rk gR vL
   refine wpAny_bind (wpAny_holding (oI hu NY mB N6 fun Mp KR Iu=>?_))
   have EM:Mp.get? o=some oo:=(Iu.2 o (Ne.symm MD)).trans FI
   refine wpAny_bind (wpAny_dictEpoch EM yA ?_)
   rw[if_neg (by simp)]
   exact wpAny_pure ⟨Mp,x+1,rfl,h2,eZ,by rw[rB hy];exact KR,EM,vL.trans Iu⟩
  ·rintro b s' ⟨h',i,rfl,hr,hi,mB,FI,vL⟩
   have Ap:i=vE.size:=by
    by_cases h:i<vE.size
    ·rw[show vE.size - i=(vE.size - (i+1))+1 by omega,List.range'_succ] at hr;exact nomatch hr
    ·omega
   refine hQ h' ?_ vL
   rw[Ap,hlen,List.take_length] at mB;exact mB
 have go:wpAny (model prog w) A (do
  let HF←dictEpoch o
  let l←dictEntries o
  forIn [:l.size] PUnit.unit fun i (_:PUnit)=>(do
   let l'←dictEntries o
   match l'[i]? with
    |some e=>do
     holding [e.key,e.val] (dictSetHashed d e.key e.hash e.val)
     let z6←dictEpoch o
     if (z6 !=HF)=true then do (unsupported (toString nm++toString ":source-changed-during-callback"):Sem PUnit);pure (ForInStep.yield PUnit.unit) else pure (ForInStep.yield PUnit.unit)
    |_=>do
     (unsupported "internal:dict-merge":Sem PUnit)
     pure (ForInStep.yield PUnit.unit):Sem (ForInStep PUnit))
  pure ()) Q E s:=by
  refine wpAny_bind (wpAny_dictEpoch Io yA (wpAny_bind (wpAny_dictEntries Io yA (wpAny_bind ?_))))
  exact wpAny_mono (loop _ rfl) (fun _ _ h=>wpAny_pure h) fun _ _ h=>h
 dsimp only
 split
 ·refine wpAny_bind (wpAny_dictEntries rk gR ?_)
  split
  ·rename_i KS
   have ID:xs=[]:=by
    have h0:Nm= #[]:=Array.isEmpty_iff.mp KS
    have:=size_of_entries NL
    rw[h0] at this
    exact List.length_eq_zero_iff.mp (by simpa using this.symm)
   subst ID
   have N8:=hh rfl
   refine wpAny_bind (q9 Io yA (fun e he=>?_) (fun e he=>?_) ?_)
   ·rw[zD] at he
    obtain⟨y,hy,rfl⟩:=List.mem_map.mp he
    obtain⟨ob,h1,h2⟩:=NX (K6 y hy)
    exact⟨y.2.1,rfl,ob,h1,h2⟩
   ·have:(vE.filter (·.hash==e.hash)).size=((ys.map fun y=>knd.hash y.1).filter (· ==e.hash)).length:=by
     rw[←Array.length_toList,Array.toList_filter,zD,List.filter_map,List.filter_map,List.length_map,List.length_map]
     rfl
    rw[this]
    have hc:=List.nodup_iff_count.mp N8 e.hash
    rw[List.count_eq_countP,List.countP_eq_length_filter] at hc
    exact hc
   ·have hm:cI ([]:List (K×Addr×Value)) ys=ys:=by
     rw[lI ys [] (by simpa using vJ)];rfl
    rw[hm] at hQ
    split
    ·have Oi:vE.size≤sizeLine+1:=by simp at hsz;omega
     refine wpAny_bind (wpAny_updateDictKeysTo rk gR (wpAny_pure (hQ _ ⟨_,_,Nk+1,Heap.get?_update_self _ rk (Obj.isFreed_of_dict (Obj.data_mapDictKeys gR _)),vh.mapDictKeys _,Obj.data_mapDictKeys gR _,zD,fun x hx=>?_,vJ⟩ (Heap.SameBut.update ..))) Oi)
     exact knd.keeps (K6 x hx) rk gR (Heap.SameBut.update ..)
    ·rename_i g0
     have h0:vE= #[]:=Array.isEmpty_iff.mp (by simpa using g0)
     have N3:ys=[]:=List.length_eq_zero_iff.mp (by rw[←hlen,h0];rfl)
     subst N3
     exact wpAny_pure (hQ _ hd (Heap.SameBut.refl _ _))
  ·exact go
 ·exact go
end
end L3
namespace L3
open PySem PySem.Spec L2
open PyProof.Rows hiding St
theorem Ej{P:Program}{w:World}{h:Heap}{k:List Key}{a:Addr}(h1:(tupleKind (aU P w)).is h k a):∃ob,h.get? a=some ob∧ob.cls= .type "tuple":=by
 obtain⟨ob,aB,n,q1,q2,_⟩:=h1
 exact⟨ob,q1,q2⟩
def g9(aw more:List (List Key×V)):List (List Key×V):=more.foldl (fun acc kv=>putK acc kv.1 kv.2) aw
theorem xA{H:Hp}:∀{more:List (List Key×V)}{ys:List (List Key×Addr×Value)},KT H more ys→∀{aw:List (List Key×V)}{xs:List (List Key×Addr×Value)},KT H aw xs→KT H (g9 aw more) (cI xs ys)
 |_,_, .nil,_,_,q=>q
 |_,_, .cons h t,aw,xs,r=>by
  refine xA t ?_
  have:=KT.put r _ h.2.1 h.2.2
  rw[h.1] at this
  show KT H (putK aw _ _) (storedH xs _ _ _)
  rw[h.1]
  exact this
theorem nL:∀(more aw:List (List Key×V)),(g9 aw more).length≤aw.length+more.length
 |[],aw=>Nat.le_refl _
 |p::r,aw=>by
  have h1:=nL r (putK aw p.1 p.2)
  have h2:=et aw p.1 p.2
  show (g9 (putK aw p.1 p.2) r).length≤_
  rw[List.length_cons];omega
def fw(k:List Int):Int:=reduceHash (Builtin.Tuple.tupleHashOf (k.map hashInt))
theorem Am{P:Program}{w:World}(k:List Int):(tupleKind (aU P w)).hash (nH k)=fw k:=by
 show reduceHash (Builtin.Tuple.tupleHashOf ((nH k).map (IQ w)))=_
 unfold fw nH
 rw[List.map_map]
 rfl
section
variable{X:Cx}{pins:List (Addr×Obj)}{σ:St}{H:Hp}{s:Shared}{a b:Addr}{A:Around}{E:Value→Shared→Prop}
theorem zU{aw more:List (List Key×V)}{ks:List (List Int)}{Q:Value→Shared→Prop}(hu:A.units+2<cLine)(I:Inv X pins σ H s)(ha:H a=some (.dT aw))(hb:Rd H b (.dT more))(Fy:a≠b)(hk:more.map (·.1)=ks.map nH)
 (hh:aw=[]→(ks.map fw).Nodup)(hz:aw.length+more.length≤sizeLine)(h:∀s',Inv X pins σ (upd H a (.dT (g9 aw more))) s'→Q .none s'):
 wpAny (model X.prog X.w) A (call (.builtin "dict.update") [.ref a, .ref b]) Q E s:=by
 obtain⟨z1,lo1,xs,Jy,Mh⟩:=zZ I.hok ha
 obtain⟨z2,OI,ys,D4,yt⟩:=jJ I.hok hb
 have l1:=Paired.length Jy
 have l2:=Paired.length D4
 have hT:=Mh.typeIs
 refine wpAny_call_entry PySem.F.slot_dict_update hT PySem.F.entry_dict_update ?_ (PySem.F.args_dict_update_2 _ _)
 unfold Builtin.«dict.update»
 refine wpAny_bind ?_
 unfold Builtin.Dict.selfAndRest
 refine wpAny_bind (wpAny_notOrdered_dict hT ?_)
 show wpAny _ _ (pure (a,[Value.ref b])) _ _ s
 refine wpAny_pure ?_
 show wpAny _ _ (Builtin.Dict.updateFrom "dict.update" a (.ref b) [] .none) _ _ s
 unfold Builtin.Dict.updateFrom
 refine wpAny_bind (wpAny_typeOf yt.typeIs ?_)
 rw[if_neg (by decide)]
 refine wpAny_bind ?_
 unfold Builtin.Dict.merge
 refine wpAny_bind ?_
 unfold Builtin.Dict.readDirectly
 refine wpAny_bind (wpAny_isInstance yt.typeIs isSubtype_dict_dict ?_)
 simp only[Bool.not_true,Bool.false_eq_true,if_false]
 refine wpAny_bind (wpAny_specialOf yt.typeIs PySem.F.slot_dict_iter.lookup (wpAny_pure ?_))
 simp only[beq_self_eq_true,if_true]
 refine wpAny_bind (wpAny_pure ?_)
 refine nT (knd:=tupleKind (aU X.prog X.w)) (show A.in1.units<cLine by show A.units+1<cLine;omega) Fy OI Mh yt Ej (fun e0=>?_) (by omega) fun h' zV vL=>?_
 ·have e1:aw=[]:=List.length_eq_zero_iff.mp (by rw[l1,e0];rfl)
  have:=hh e1
  have e2:(ys.map fun y=>(tupleKind (aU X.prog X.w)).hash y.1)=ks.map fw:=by
   have e3:more.map (·.1)=ys.map (·.1):=md (fun _ _ r=>r.1) D4
   rw[show (fun y:List Key×Addr×Value=>(tupleKind (aU X.prog X.w)).hash y.1)=(tupleKind (aU X.prog X.w)).hash∘(·.1) from rfl,←List.map_map,←e3,hk,List.map_map]
   exact List.map_congr_left fun k _=>Am k
  rw[e2];exact this
 ·show wpAny _ _ (Builtin.Dict.addKeywords a []>>=_) _ _ _
  refine wpAny_bind (wpAny_pure (wpAny_pure ⟨.none,rfl,h _ ?_⟩))
  obtain⟨q,es,ep,hq,h2,h3,h4,_,h5⟩:=zV
  have hl:(g9 aw more).length≤sizeLine:=by have:=nL more aw;omega
  refine jI I (t':=s.toks) (by rw[ha];exact True.intro) vL ⟨q,hq⟩ ⟨hl,lo1,_,(xA D4 Jy).keeps fun c ys ec=>?_,q,es,ep,hq,h2,h3,h4,h5⟩
  rw[ax (AU ec ha (fun z=>nomatch z))]
  exact ec
end
def bS(ks:List (List Key))(ds:List D):List (List Key)→List D→List (List Key)×List D
 |k::ks',d::ds'=>bS (cX ks ds k) (cf ks ds k d) ks' ds'
 |_,_=>(ks,ds)
def Cb(ks:List (List Key))(ds:List D):D→Option C
 | .dct ks' ds'=>match e7 ks' with
   |some ns=>if ds.length+ds'.length≤lim∧(ks.isEmpty=true→(ns.map fw).Nodup) then some (.dct (bS ks ds ks' ds').1 (bS ks ds ks' ds').2) else none
   |none=>none
 |_=>none
theorem nR{K:W.Frag}{F:Hp}:∀{ks':List (List Key)}{ds':List D}{vs':List V}{ks:List (List Key)}{ds:List D}{vs:List V},DenL K F ds' vs'→ks'.length=ds'.length→DenL K F ds vs→ks.length=ds.length→
 ∃ws,g9 (ks.zip vs) (ks'.zip vs')=(bS ks ds ks' ds').1.zip ws∧DenL K F (bS ks ds ks' ds').2 ws∧(bS ks ds ks' ds').1.length=(bS ks ds ks' ds').2.length
 |[],[],vs',ks,ds,vs,h',_,h,hl=>⟨vs,rfl,h,hl⟩
 |k::ks',d::ds',vs',ks,ds,vs,⟨v,r,e,h1,h2⟩,EL,h,hl=>by
  subst e
  obtain⟨ws,e1,e2,e3⟩:=se (K:=K) (F:=F) h1 k h hl
  obtain⟨us,q1,q2,q3⟩:=nR (ks':=ks') (ds':=ds') (vs':=r) h2 (by simpa using EL) e2 e3
  refine⟨us,?_,q2,q3⟩
  show g9 (putK (ks.zip vs) k v) (ks'.zip r)=_
  rw[e1]
  exact q1
 |[],_::_,_,_,_,_,_,EL,_,_=>by simp at EL
 |_::_,[],_,_,_,_,_,EL,_,_=>by simp at EL
theorem BI{κ:Type}[DecidableEq κ]{ks:List κ}{ds:List D}{k:κ}{d:D}(hl:ks.length=ds.length):(cf ks ds k d).length≤ds.length+1:=by
 unfold cf
 split
 ·rw[ir ks ds k d hl];omega
 ·simp
theorem BJ{κ:Type}[DecidableEq κ]{ks:List κ}{ds:List D}{k:κ}{d:D}(hl:ks.length=ds.length):(cX ks ds k).length=(cf ks ds k d).length:=by
 unfold cf cX
 split
 ·rw[ir ks ds k d hl];exact hl
 ·simp[hl]
theorem nS:∀{ks':List (List Key)}{ds':List D}{ks:List (List Key)}{ds:List D},ks.length=ds.length→(bS ks ds ks' ds').2.length≤ds.length+ds'.length
 |[],ds',ks,ds,_=>by show ds.length≤_;omega
 |_::_,[],ks,ds,_=>by show ds.length≤_;simp
 |k::ks',d::ds',ks,ds,hl=>by
  have h1:=nS (ks':=ks') (ds':=ds') (ks:=cX ks ds k) (ds:=cf ks ds k d) (BJ hl)
  have h2:=BI (k:=k) (d:=d) hl
  show (bS (cX ks ds k) (cf ks ds k d) ks' ds').2.length≤_
  rw[List.length_cons];omega
section
variable{X:Cx}{Xw:Nat→Hp→Prop}{o e f:Expr}{δ δo δe δf:DE}{pos p apos aQ:Pos}{x:Str}{i:Nat}
def zj(i:Nat)(δ:DE):DS:=fun ρ=>match we ρ i with
 |some (.dct ks ds)=>δ ρ>>=fun d=>match Cb ks ds d with
  |some c'=>M.ret (.nx (ρ.set i (some (.ow c'))))
  |none=>M.stuck
 |_=>M.stuck
theorem Gx{td ty:TE}(hu:X.A.units+2<cLine)(ho:PE X o td)(he:PE X e ty)(m:M1 X o "update" apos e aQ):
 PE X (.Call (.Attribute o "update" apos) [e] [] aQ) (fun σ H Q=>td σ H fun x H1=>∃a,x= .ref a∧Hj H1 a∧ty σ H1 fun y H2=>∃(b:Addr) (aw more:List (List Key×V)) (ks:List (List Int)),y= .ref b∧H2 a=some (.dT aw)∧Rd H2 b (.dT more)∧a≠b∧more.map (·.1)=ks.map nH∧(aw=[]→(ks.map fw).Nodup)∧aw.length+more.length≤sizeLine∧Q .non (upd H2 a (.dT (g9 aw more)))):=by
 intro pins s σ H Q I h
 refine wpAny_Call_method m.base m.few m.line PySem.F.plainAttrs_dict PySem.F.slot_dict_update (by rfl) (bK (ho pins s σ H _ I h) fun u s1 ⟨x,H1,I1,rx,a,ex,d,q1⟩=>?_)
 subst ex
 obtain rfl:u=Value.ref a:=rx
 obtain⟨t1,t2,_⟩:=vM I1 d
 refine⟨t1,t2,?_⟩
 rw[m.trees]
 refine Calls.callWith_builtin rfl (Calls.evalArgs_plain (Calls.spliced_cons (bK (he pins s1 σ H1 _ I1 q1) fun iv s2 ⟨y,H2,I2,ry,b,aw,more,ks,ey,k1,k2,k3,k4,k5,k6,q2⟩=>Calls.spliced_nil ?_)))
 subst ey
 obtain rfl:iv=Value.ref b:=ry
 exact zU hu I2 k1 k2 k3 k4 k5 k6 fun s3 I3=>⟨.non,_,I3,rfl,q2⟩
theorem DX(hu:X.A.units+64<cLine)(hv:PE X (.Name x p) (oQ i))(he:PD X Xw e δ)(m:M1 X (.Name x p) "update" apos e aQ)(hs:swapsWith (.Call (.Attribute (.Name x p) "update" apos) [e] [] aQ) none pos.line X.env=pure false:=by rfl):
 gS X Xw (.Expr (.Call (.Attribute (.Name x p) "update" apos) [e] [] aQ) pos) (zj i δ):=fun F₀ H₀=>PS.weak (mT (Gx (by omega) hv he m) hs) fun D σ H ⟨F,ρ,s,w⟩=>by
 unfold zj at w
 split at w
 ·rename_i ks ds J8
  have hi:=qk J8
  obtain⟨v,IB,a,oh,rfl,hH,hF,vs,rfl,hd,hl,hz⟩:=s.st.den i _ hi
  refine⟨.ref a,IB,a,rfl, .inr ⟨_, .inl hH⟩,F,ρ,s.st,?_⟩
  rcases(δ ρ).cs with q | ⟨n,q⟩ | ⟨d,q⟩
  ·rw[q] at w;exact w.elim
  ·rw[q] at w⊢;exact fun F' H' e'=>w F' H' (s.ext.trans e')
  ·rw[q] at w⊢
   intro u H1 F1 e1 hq
   have w:WPS X.K Xw F₀ H₀ (match Cb ks ds d with | some c'=>M.ret (.nx (ρ.set i (some (.ow c')))) | none=>M.stuck) D:=w
   cases d with
   |dct ks' ds'=>
    obtain⟨b,ob,vs',rfl,k2,k3,k4,k5⟩:=hq
    cases hc:Cb ks ds (.dct ks' ds') with
    |none=>rw[hc] at w;exact w.elim
    |some c'=>
     rw[hc] at w
     have hc:(match e7 ks' with | some ns=>if ds.length+ds'.length≤lim∧(ks.isEmpty=true→(ns.map fw).Nodup) then some (C.dct (bS ks ds ks' ds').1 (bS ks ds ks' ds').2) else none | none=>none)=some c':=hc
     cases hn:e7 ks' with
     |none=>rw[hn] at hc;cases hc
     |some ns=>
      rw[hn] at hc
      have hc:(if ds.length+ds'.length≤lim∧(ks.isEmpty=true→(ns.map fw).Nodup) then some (C.dct (bS ks ds ks' ds').1 (bS ks ds ks' ds').2) else none)=some c':=hc
      split at hc
      ·rename_i HX
       cases hc
       have MC:=DenL.mono e1.ff hd
       have l1:=MC.len
       have l2:=k3.len
       have Fy:a≠b:=fun z=>by
        have:=e1.old hH (fun _ z=>nomatch z)
        rw[hF,z,k2] at this
        cases this
       obtain⟨ws,m1,m2,m3⟩:=nR k3 k4 MC hl
       refine⟨b,ks.zip vs,ks'.zip vs',ns,rfl,e1.hh _ _ hH, .inr ⟨ob,e1.fh _ _ k2⟩,Fy,by rw[i3 (by rw[k4];exact l2),kF hn],fun z=>HX.2 ?_,?_,?_⟩
       ·have:=i3 (a:=ks) (b:=vs) (by rw[hl];exact l1)
        rw[z] at this
        rw[←this];rfl
       ·rw[List.length_zip,List.length_zip]
        have:=eE
        omega
       ·rw[m1]
        exact w σ F1 _ ((s.ext' e1).chg (c₀:= .dct (bS ks ds ks' ds').1 (bS ks ds ks' ds').2) hi IB ⟨ws,rfl,m2,m3,by have:=nS (ks':=ks') (ds':=ds') hl;omega⟩)
      ·cases hc
   |_=>exact w.elim
 ·exact w.elim
end
section
variable{X:Cx}{Xw:Nat→Hp→Prop}{o e f:Expr}{δ δo δe δf:DE}{δs:DA}{pos p apos aQ:Pos}{x:Str}{i:Nat}
def Az:D→Bool
 | .dct _ _=>true
 | .dci _ _=>true
 |_=>false
theorem xr{K:W.Frag}{F H:Hp}{d:D}{x:V}(s:Same F H)(hd:Den K F d x)(e:Az d=true):∃a,x= .ref a∧Hj H a:=by
 cases d with
 |dct ks ds=>obtain⟨a,ob,vs,rfl,h2,_⟩:=hd;exact⟨a,rfl, .inr ⟨_, .inr ⟨ob,s _ _ h2⟩⟩⟩
 |dci ks ds=>obtain⟨a,ob,vs,rfl,h2,_⟩:=hd;exact⟨a,rfl, .inl ⟨_, .inr ⟨ob,s _ _ h2⟩⟩⟩
 |_=>cases e
def getM(d k v:D):M D:=match zA d k with
 |some (some x)=>M.ret x
 |some none=>M.ret v
 |none=>M.stuck
def Hx(δo δe:DE):DE:=fun ρ=>δo ρ>>=fun d=>if Az d then δe ρ>>=fun k=>getM d k .non else M.stuck
def tE(δo δe δf:DE):DE:=fun ρ=>δo ρ>>=fun d=>if Az d then δe ρ>>=fun k=>δf ρ>>=fun v=>getM d k v else M.stuck
theorem tR{F H:Hp}{d k v:D}{a:Addr}{y z:V}{Q:VK}(s:Same F H)(q1:Den X.K F d (.ref a))(q2:Den X.K F k y)(q3:Den X.K F v z)(w:WP X.K Xw F H (getM d k v) Q):∃ov,ji H a y ov∧Q (ov.getD z) H:=by
 unfold getM at w
 cases vg:zA d k with
 |none=>rw[vg] at w;exact w.elim
 |some o'=>
  rw[vg] at w
  obtain⟨a',ov,zz,h2,h3,h4⟩:=qP s q1 q2 vg
  cases zz
  refine⟨ov,h2,?_⟩
  cases o' with
  |none=>
   cases ov with
   |none=>exact WP.now w s q3
   |some _=>cases h3
  |some d'=>
   obtain⟨v,rfl,hv⟩:=h4 d' rfl
   exact WP.now w s hv
theorem Kj(hu:X.A.units+64<cLine)(ho:PD X Xw o δo)(he:PD X Xw e δe)(m:M1 X o "get" apos e aQ):PD X Xw (.Call (.Attribute o "get" apos) [e] [] aQ) (Hx δo δe):=
 PE.weak (Bs (by omega) ho he m) fun σ H Q ⟨F,ρ,s,w⟩=>by
  refine⟨F,ρ,s,WP.mono (WP.bind w) fun x H1 ⟨F1,d,e1,q1,w1⟩=>?_⟩
  split at w1
  ·rename_i hd
   obtain⟨a,rfl,Lx⟩:=xr e1.fh q1 hd
   refine⟨a,rfl,Lx,F1,ρ,s.ext e1,WP.mono (WP.bind w1) fun y H2 ⟨F2,k,e2,q2,w2⟩=>?_⟩
   exact tR (v:= .non) (z:= .non) e2.fh (Den.mono e2.ff q1) q2 (show V.non=V.non from rfl) w2
  ·exact w1.elim
theorem Dy(hu:X.A.units+64<cLine)(ho:PD X Xw o δo)(he:PD X Xw e δe)(hf:PD X Xw f δf)(m:M2 X o "get" apos e f aQ):PD X Xw (.Call (.Attribute o "get" apos) [e,f] [] aQ) (tE δo δe δf):=
 PE.weak (Bt (by omega) ho he hf m) fun σ H Q ⟨F,ρ,s,w⟩=>by
  refine⟨F,ρ,s,WP.mono (WP.bind w) fun x H1 ⟨F1,d,e1,q1,w1⟩=>?_⟩
  split at w1
  ·rename_i hd
   obtain⟨a,rfl,Lx⟩:=xr e1.fh q1 hd
   refine⟨a,rfl,Lx,F1,ρ,s.ext e1,WP.mono (WP.bind w1) fun y H2 ⟨F2,k,e2,q2,w2⟩=>?_⟩
   refine⟨F2,ρ,(s.ext e1).ext e2,WP.mono (WP.bind w2) fun z H3 ⟨F3,v,e3,q3,w3⟩=>?_⟩
   exact tR e3.fh (Den.mono e3.ff (Den.mono e2.ff q1)) (Den.mono e3.ff q2) q3 w3
  ·exact w1.elim
end
section
variable{X:Cx}{Xw:Nat→Hp→Prop}{a b e Nn:Expr}{δ δa δb δs:DE}{pos p2:Pos}
def yy(neg:Bool):D→D→M D
 | .raw _,_=>M.stuck
 | .non, .non=>M.ret (.bl (!neg))
 |_, .non=>M.ret (.bl neg)
 |_,_=>M.stuck
theorem CZ{K:W.Frag}{neg:Bool}{g:V→Bool}(hg:∀v,g v=if neg then !decide (v= .non) else decide (v= .non)):sZ K (fun x y H Q=>y= .non∧Q (.bl (g x)) H) (yy neg):=fun Xw F H x y dx dy Q s hx hy w=>by
 unfold yy at w
 split at w
 ·exact w.elim
 ·refine⟨hy,?_⟩
  cases (show x=_ from hx)
  rw[hg]
  cases neg<;>exact WP.now w s rfl
 ·rename_i h1 h2
  refine⟨hy,?_⟩
  have IC:x≠ .non:=by
   rintro rfl
   cases dx with
   |raw v=>exact h1 v rfl
   |non=>exact h2 rfl
   |bl _=>cases (show _=_ from hx)
   |int _=>cases (show _=_ from hx)
   |str _=>cases (show _=_ from hx.1)
   |exc _=>obtain⟨_,z,_⟩:=hx;cases z
   |scr _=>obtain⟨_,z,_⟩:=hx;cases z
   |tup _=>obtain⟨_,_,z,_⟩:=hx;cases z
   |lst _=>obtain⟨_,_,z,_⟩:=hx;cases z
   |dct _ _=>obtain⟨_,_,_,z,_⟩:=hx;cases z
   |dci _ _=>obtain⟨_,_,_,z,_⟩:=hx;cases z
  rw[hg,decide_eq_false IC]
  cases neg<;>exact WP.now w s rfl
 ·exact w.elim
theorem xP(ha:PD X Xw a δa)(hb:PD X Xw b δb):ku X Xw (.Compare a [.IsNot] [b] pos) (b9 (d2 (yy true) δa δb)):=dP Dp (CZ fun _=>rfl) ha hb
end
section
variable{prog:Program}{w:World}{A:Around}{E:Value→Shared→Prop}{s:Shared}
end
def vI:List Nat→Es
 |[]=>HM
 |i::is=>EC (Ag i) (vI is)
def wB:List Nat→List D→aX→aX
 |i::is,d::ds,ρ=>wB is ds (ρ.set i (some (.fz d)))
 |_,_,ρ=>ρ
def oz(is:List Nat):D→aX→Option aX
 | .tup ds,ρ=>if ds.length=is.length then some (wB is ds ρ) else none
 |_,_=>none
theorem qF{K:W.Frag}{F₀ H₀ F H:Hp}{Q:St→Hp→Prop}:∀(is:List Nat) (ds:List D) (vs:List V) (σ:St) (ρ:aX),ds.length=is.length→StOk K F₀ H₀ F H σ ρ→DenL K F ds vs→(∀σ',StOk K F₀ H₀ F H σ' (wB is ds ρ)→Q σ' H)→vI is vs σ H Q
 |[],[],vs,σ,ρ,_,s,h,k=>⟨h,k σ s⟩
 |i::is,d::ds,vs,σ,ρ,hl,s,⟨v,r,e,h1,h2⟩,k=>by
  subst e
  exact⟨v,r,rfl,qF is ds r _ _ (by simpa using hl) (s.set h1) h2 k⟩
 |[],_::_,_,_,_,hl,_,_,_=>by simp at hl
 |_::_,[],_,_,_,hl,_,_,_=>by simp at hl
theorem sf{K:W.Frag}{is:List Nat}:zE K (HN K is.length (vI is)) (oz is):=fun F₀ H₀ F H σ ρ ρ' d v Q s q e k=>by
 unfold oz at e
 split at e
 ·rename_i ds
  split at e
  ·rename_i hl
   cases e
   obtain⟨a,vs,rfl,hs,hd,_⟩:=q
   exact⟨a,vs,rfl,SqT.of (s.st.fh _ _ hs),by rw[←hd.len];exact hl,qF is ds vs σ ρ hl s hd k⟩
  ·cases e
 ·cases e
section
variable{prog:Program}{w:World}{A:Around}{E:Value→Shared→Prop}{s:Shared}
end
section
variable{prog:Program}{w:World}{A:Around}{E:Value→Shared→Prop}{s:Shared}
end
section
variable{X:Cx}{Xw:Nat→Hp→Prop}{a b e e2:Expr}{δa δb:DE}{δs:DA}{p pos:Pos}
theorem uZ{α β γ:Type}(f:α→β)(g:α→γ):∀l:List α,(l.map f).zip (l.map g)=l.map fun x=>(f x,g x)
 |[]=>rfl
 |a::l=>by rw[List.map_cons,List.map_cons,List.zip_cons_cons,uZ f g l];rfl
end
mutual
def Ex:D→Bool
 | .non=>true
 | .bl _=>true
 | .int _=>true
 | .str _=>true
 | .tup ds=>tF ds
 | .lst ds=>tF ds
 | .raw _=>false
 | .exc _=>false
 | .scr _=>false
 | .dct _ _=>false
 | .dci _ _=>false
def tF:List D→Bool
 |[]=>true
 |d::ds=>Ex d&&tF ds
end
def uz(ρ:aX):Bool:=ρ.all fun x=>match x with
 |some (.ow (.lst _))=>false
 |_=>true
theorem A9{ρ:aX}{i:Nat}{ds:List D}(h:uz ρ=true)(e:ρ[i]? =some (some (.ow (.lst ds)))):False:=by
 have:=List.all_eq_true.mp h _ (List.mem_of_getElem? e)
 cases this
section
variable{K:W.Frag}{F H F' H':Hp}{σ:St}{ρ:aX}{h:Heap}{b:Addr}
theorem OwnAt.dict(S:StE K F H σ ρ)(hd:uz ρ=true)(p:OwnAt σ ρ b):∃o,H b=some o∧((∃x,o= .dT x)∨∃x,o= .dK x):=by
 obtain⟨i,c,h1,h2⟩:=p
 obtain⟨v,h3,a,o,rfl,h4,h5,h6⟩:=S.den i _ h1
 rw[h3] at h2
 cases h2
 refine⟨o,h4,?_⟩
 cases c with
 |lst ds=>exact(A9 hd h1).elim
 |dct ks ds=>obtain⟨vs,rfl,_⟩:=h6;exact .inl ⟨_,rfl⟩
 |dci ks ds=>obtain⟨vs,rfl,_⟩:=h6;exact .inr ⟨_,rfl⟩
open Classical in
theorem xE(S:StE K F H σ ρ)(hd:uz ρ=true)(E:Ext (fA σ ρ (refA h (OwnAt σ ρ) H) F) (refA h (OwnAt σ ρ) H) F' H'){a:Addr}{o:HO}(e:F' a=some o)(g0:∀q u,o≠ .frz q u):(if OwnAt σ ρ a then none else F' a)=some o:=by
 rw[if_neg,e]
 intro hp
 obtain⟨o',k1,k2⟩:=OwnAt.dict S hd hp
 have k3:fA σ ρ (refA h (OwnAt σ ρ) H) F a=some (my ((h.get? a).getD {cls:= .none,data:= .fields #[]}) o'):=by
  unfold fA refA
  rw[if_pos hp,if_pos hp,k1]
  rfl
 have k4:=E.ff a _ k3
 rw[e] at k4
 rcases k2 with⟨x,rfl⟩ | ⟨x,rfl⟩<;>cases k4<;>exact g0 _ _ rfl
open Classical in
mutual
theorem zW(S:StE K F H σ ρ)(hd:uz ρ=true)(E:Ext (fA σ ρ (refA h (OwnAt σ ρ) H) F) (refA h (OwnAt σ ρ) H) F' H'):∀{d:D}{v:V},Ex d=true→Den K F' d v→Den K (fun b=>if OwnAt σ ρ b then none else F' b) d v
 | .non,_,_,q=>q
 | .bl _,_,_,q=>q
 | .int _,_,_,q=>q
 | .str _,_,_,q=>q
 | .tup ds,_,f,⟨a,vs,h1,h2,h3,h4⟩=>⟨a,vs,h1,xE S hd E h2 (fun _ _ z=>nomatch z),kA S hd E f h3,h4⟩
 | .lst ds,_,f,⟨a,vs,h1,h2,h3,h4⟩=>⟨a,vs,h1,xE S hd E h2 (fun _ _ z=>nomatch z),kA S hd E f h3,h4⟩
 | .raw _,_,f,_=>by cases f
 | .exc _,_,f,_=>by cases f
 | .scr _,_,f,_=>by cases f
 | .dct _ _,_,f,_=>by cases f
 | .dci _ _,_,f,_=>by cases f
theorem kA(S:StE K F H σ ρ)(hd:uz ρ=true)(E:Ext (fA σ ρ (refA h (OwnAt σ ρ) H) F) (refA h (OwnAt σ ρ) H) F' H'):∀{ds:List D}{vs:List V},tF ds=true→DenL K F' ds vs→DenL K (fun b=>if OwnAt σ ρ b then none else F' b) ds vs
 |[],_,_,q=>q
 |d::ds,_,f,⟨v,r,h1,h2,h3⟩=>by
  unfold tF at f
  rw[Bool.and_eq_true] at f
  exact⟨v,r,h1,zW S hd E f.1 h2,kA S hd E f.2 h3⟩
end
end
section
variable{X:Cx}{Xw:Nat→Hp→Prop}{e:Expr}{δ:DE}
end
def HA(δ:DE):DE:=fun ρ=>noex (δ (vG ρ))>>=ni
def E8(τ:DT):DT:=fun ρ=>noex (τ (vG ρ))
section
variable{X:Cx}{Xw:Nat→Hp→Prop}{st:Stmt}{τ:DS}{is:List Nat}
end
section
variable{X:Cx}{Xw:Nat→Hp→Prop}{a b e o:Expr}{δ δa δb δo:DE}{δl:DA}{pos apos aQ:Pos}
theorem Ed{x y:Str}(h:x.cps.toList=y.cps.toList):x=y:=by
 obtain⟨⟨a⟩⟩:=x
 obtain⟨⟨b⟩⟩:=y
 cases (show a=b from h)
 rfl
end
def FQ(x:Int):List Int→List Int
 |[]=>[x]
 |y::r=>if x≤y then x::y::r else y::FQ x r
theorem yC(x:Int):∀l,(FQ x l).Perm (x::l)
 |[]=>List.Perm.refl _
 |y::r=>by
  unfold FQ
  split
  ·exact List.Perm.refl _
  ·exact((yC x r).cons y).trans (List.Perm.swap ..)
section
variable{X:Cx}{Xw:Nat→Hp→Prop}{e:Expr}{δs:DA}{pos p:Pos}
theorem pP{K:W.Frag}{F:Hp}:∀{xs:List Int},DenL K F (xs.map D.int) (xs.map V.int)
 |[]=> .nil
 |x::r=> .cons rfl pP
end
section
variable{X:Cx}{Xw:Nat→Hp→Prop}{a b e o k v k' v':Expr}{δ δa δb δo δk δv δk' δv':DE}{δl δs:DA}{pos apos aQ p:Pos}
end
section
variable{X:Cx}{Xw:Nat→Hp→Prop}{a b e:Expr}{δ δa δb:DE}{δs:DA}{pos p:Pos}
end
end L3
namespace L3
open PySem PySem.SetTable
def iK(m b:Nat):Nat→Nat×Nat
 |0=>(b % (m+1),b)
 |k+1=>leap m (iK m b k).1 (iK m b k).2
def Hh(m i:Nat):Nat:=(i*5+1) % (m+1)
def it(m:Nat):Nat→Nat→Nat
 |0,x=>x
 |n+1,x=>Hh m (it m n x)
theorem nB(m:Nat):∀a b x,it m (a+b) x=it m a (it m b x)
 |0,b,x=>by rw[Nat.zero_add];rfl
 |a+1,b,x=>by rw[Nat.add_right_comm];show Hh m _=Hh m _;rw[nB m a b x]
theorem IG(m b:Nat):∀k,(iK m b k).2=b / 32 ^ k
 |0=>by simp[iK]
 |k+1=>by
  show (iK m b k).2 / 32=_
  rw[IG m b k,Nat.div_div_eq_div_mul,Nat.pow_succ]
theorem xo{m b:Nat}(hb:b<2 ^ 64):∀k,(iK m b (k+13)).1=it m k (iK m b 13).1
 |0=>by rw[Nat.zero_add];rfl
 |k+1=>by
  rw[Nat.add_right_comm]
  have hq:(iK m b (k+13)).2 / 32=0:=by
   rw[IG]
   refine Nat.div_eq_of_lt ?_
   refine Nat.lt_of_le_of_lt (m:=b / 32 ^ 13) ?_ ?_
   ·rw[Nat.pow_add,Nat.mul_comm,←Nat.div_div_eq_div_mul]
    exact Nat.div_le_self ..
   ·have:b / 32 ^ 13<1:=Nat.div_lt_of_lt_mul (by omega)
    omega
  show ((iK m b (k+13)).1*5+1+(iK m b (k+13)).2 / 32) % (m+1)=Hh m _
  rw[hq,xo hb k]
  rfl
def JL(m:Nat):Prop:=m=7∨m=31∨m=127
def LH(m:Nat):Nat→Nat→List Nat
 |0,_=>[]
 |n+1,x=>x::LH m n (Hh m x)
theorem wd(m:Nat):∀(n x j:Nat),j∈LH m n x→∃a,a<n∧it m a x=j
 |0,x,j,h=>by cases h
 |n+1,x,j,h=>by
  rcases List.mem_cons.mp h with rfl | h
  ·exact⟨0,by omega,rfl⟩
  ·obtain⟨a,ha,e⟩:=wd m n (Hh m x) j h
   exact⟨a+1,by omega,by rw[nB m a 1 x];exact e⟩
theorem Du{m:Nat}(hm:JL m):(∀j,j<m+1→j∈LH m (m+1) 0)∧it m (m+1) 0=0:=by
 rcases hm with rfl | rfl | rfl
 ·exact⟨by decide+kernel,by decide+kernel⟩
 ·exact⟨by decide+kernel,by decide+kernel⟩
 ·exact⟨by decide+kernel,by decide+kernel⟩
theorem Ng{m:Nat}(hm:JL m){i j:Nat}(hi:i<m+1)(hj:j<m+1):∃n,n≤m∧it m n i=j:=by
 obtain⟨h1,h2⟩:=Du hm
 obtain⟨a,ha,rfl⟩:=wd m _ 0 i (h1 i hi)
 obtain⟨b,hb,rfl⟩:=wd m _ 0 j (h1 j hj)
 by_cases h:a≤b
 ·exact⟨b - a,by omega,by rw[←nB,Nat.sub_add_cancel h]⟩
 ·refine⟨m+1 - a+b,by omega,?_⟩
  rw[←nB,show m+1 - a+b+a=b+(m+1) by omega,nB,h2]
theorem IF(m b k:Nat):(iK m b k).1<m+1:=by
 cases k with
 |zero=>exact Nat.mod_lt _ (by omega)
 |succ k=>exact Nat.mod_lt _ (by omega)
theorem reach{m b:Nat}(hm:JL m)(hb:b<2 ^ 64){j:Nat}(hj:j<m+1):∃k,k≤m+13∧(iK m b k).1=j:=by
 obtain⟨n,hn,e⟩:=Ng hm (IF m b 13) hj
 exact⟨n+13,by omega,by rw[xo hb,e]⟩
def vals(o:Array (Option Nat))(n:Nat):List Nat:=(List.range n).filterMap fun j=>o.getD j none
structure TabOk (t:SetTable) (n:Nat) (ld:Bool):Prop where
 Pb:JL t.mask
 size:t.place.size=n
 O1:t.dummies= #[]
 room:5*n<3*t.mask
 plain:t.plain=true
 led:t.led=ld
 rise:t.place.toList.Pairwise (· < ·)
section
variable{prog:Program}{w:World}{A:Around}{E:Value→Shared→Prop}{s:Shared}
end
section
variable{prog:Program}{w:World}{A:Around}{R:Result→Shared→Prop}{I:Addr}{fp wr:List Addr}{G:Array GenState→Array GenState→Prop}{n:Nat}{P:Nat→Value→Prop}{St:Nat→Shared→Prop}{ld:Bool}
end
section
variable{prog:Program}{w:World}{A:Around}{E:Value→Shared→Prop}{s:Shared}
end
section
variable{prog:Program}{w:World}{A:Around}{E:Value→Shared→Prop}{s:Shared}
end
end L3
namespace L3
open PySem PySem.Spec L2 HT
open PyProof.Rows hiding St
theorem items_int{P:Program}{w:World}:∀{us:List Value}{ns:List Int},IntsAre us ns→ItemsAre (intKind P w) ns us
 |_,_, .nil=> .nil
 |_,_, .cons n t h=> .cons (intKind_is _ _ _ _) (items_int h)
section
variable{X:Cx}{Xw:Nat→Hp→Prop}{e:Expr}{δ:DE}{pos uC p p2:Pos}
end
end L3
namespace L3
open PySem PySem.SetTable PySem.W PyProof.Rows
def IsSI(h:Heap)(it a:Addr)(sl k n ep:Nat):Prop:=∃o,h.get? it=some o∧o.cls= .type "set_iterator"∧o.data= .fields #[rawInt sl,rawInt k, .ref a,rawInt n,rawInt ep]
theorem IsSI.typeIs{s:Shared}{it a:Addr}{sl k n ep:Nat}(x:IsSI s.heap it a sl k n ep):s.TypeIs (.ref it) "set_iterator":=let ⟨o,ho,hc,_⟩:=x;⟨o,ho,hc⟩
section
variable{prog:Program}{w:World}{A:Around}{E:Value→Shared→Prop}{s:Shared}{a:Addr}{o:Obj}{es:Array (Int×Value)}{ep:Nat}{t:SetTable}
end
end L3
namespace L3
open PySem PySem.Spec L2 SeqAt HT
open PyProof.Rows hiding St
section
variable{X:Cx}{Xw:Nat→Hp→Prop}{e:Expr}{δ:DE}{pos uC p p2:Pos}
end
end L3
namespace L3
open PySem PySem.Spec L2 HT
open PyProof.Rows hiding St
section
variable{X:Cx}{Xw:Nat→Hp→Prop}{e:Expr}{δs:DA}{pos p:Pos}
end
section
variable{X:Cx}{Xw:Nat→Hp→Prop}{e:Expr}{δ:DE}{pos uC p p2:Pos}
end
section
variable{prog:Program}{w:World}{A:Around}{R:Result→Shared→Prop}{I:Addr}{fp wr:List Addr}{G:Array GenState→Array GenState→Prop}{n:Nat}{P:Nat→Value→Prop}{St:Nat→Shared→Prop}
end
section
variable{prog:Program}{w:World}{A:Around}{E:Value→Shared→Prop}{s:Shared}
end
section
variable{X:Cx}{Xw:Nat→Hp→Prop}{e:Expr}{δ:DE}{pos uC p p2:Pos}
end
section
variable{X:Cx}{Xw:Nat→Hp→Prop}{a b:Expr}{δa δb:DE}{pos:Pos}
end
section
variable{prog:Program}{w:World}{A:Around}{E:Value→Shared→Prop}{s:Shared}
end
section
variable{X:Cx}{Xw:Nat→Hp→Prop}{a b:Expr}{δa δb:DE}{pos:Pos}
end
end L3
namespace L3
open PySem PySem.Spec L2 SeqAt HT
open PyProof.Rows hiding St
section
variable{X:Cx}{Xw:Nat→Hp→Prop}{e:Expr}{δs:DA}{pos p:Pos}
end
end L3
namespace L3
open PySem PySem.Spec L2 HT
open PyProof.Rows hiding St
def nO:List Int→Int
 |[]=>0
 |[x]=>x
 |x::r=>max x (nO r)
def cT:List Int→Int
 |[]=>0
 |[x]=>x
 |x::r=>min x (cT r)
theorem qd:∀{l:List Int},0<l.length→nO l∈l∧∀a∈l,a≤nO l
 |[x],_=>⟨by simp[nO],fun a h=>by rw[List.mem_singleton.mp h];exact Int.le_refl _⟩
 |x::y::r,_=>by
  obtain⟨h1,h2⟩:=qd (l:=y::r) (Nat.succ_pos _)
  have e:nO (x::y::r)=max x (nO (y::r)):=rfl
  rw[e]
  refine⟨?_,fun a ha=>?_⟩
  ·rcases Int.le_total x (nO (y::r)) with q | q
   ·rw[Int.max_eq_right q];exact List.mem_cons_of_mem _ h1
   ·rw[Int.max_eq_left q];exact List.mem_cons_self ..
  ·rcases List.mem_cons.mp ha with q | q
   ·rw[q];exact Int.le_max_left ..
   ·exact Int.le_trans (h2 a q) (Int.le_max_right ..)
theorem kK:∀{l:List Int},0<l.length→cT l∈l∧∀a∈l,cT l≤a
 |[x],_=>⟨by simp[cT],fun a h=>by rw[List.mem_singleton.mp h];exact Int.le_refl _⟩
 |x::y::r,_=>by
  obtain⟨h1,h2⟩:=kK (l:=y::r) (Nat.succ_pos _)
  have e:cT (x::y::r)=min x (cT (y::r)):=rfl
  rw[e]
  refine⟨?_,fun a ha=>?_⟩
  ·rcases Int.le_total x (cT (y::r)) with q | q
   ·rw[Int.min_eq_left q];exact List.mem_cons_self ..
   ·rw[Int.min_eq_right q];exact List.mem_cons_of_mem _ h1
  ·rcases List.mem_cons.mp ha with q | q
   ·rw[q];exact Int.min_le_left ..
   ·exact Int.le_trans (Int.min_le_right ..) (h2 a q)
section
variable{X:Cx}{Xw:Nat→Hp→Prop}{e:Expr}{δs:DA}{pos p:Pos}
def MZ:List D→M D
 |[.lst ds]=>match nums ds with
  |some ns=>if 0<ns.length then M.ret (.int (nO ns)) else M.stuck
  |none=>M.stuck
 |_=>M.stuck
def gO:List D→M D
 |[.lst ds]=>match nums ds with
  |some ns=>if 0<ns.length then M.ret (.int (cT ns)) else M.stuck
  |none=>M.stuck
 |_=>M.stuck
theorem nE{aB:List Value}{ns:List Int}(hi:IntsAre aB ns):∃xs:Array (Int×Tok),aB.toArray=intItems xs∧xs.size=ns.length∧∀i,i<xs.size→numAt xs i∈ns∧ns[i]? =some (numAt xs i):=by
 obtain⟨xs,hx⟩:=hi.allInts.items
 have e1:ns=xs.toList.map (·.1):=by
  rw[←nums_intItems,←hx]
  exact(show numsOf aB.toArray.toList=ns from hi.numsOf).symm
 refine⟨xs,hx,by rw[e1];simp,fun i h=>?_⟩
 have:ns[i]? =some (numAt xs i):=by
  rw[e1,List.getElem?_map,Array.getElem?_toList]
  unfold numAt
  rw[Array.getElem?_eq_getElem h]
  rfl
 exact⟨List.mem_of_getElem? this,this⟩
theorem G9(hc:X.calm=true):CallR X (.builtin "max") (fun xs H Q=>∃(p:Addr) (ns:List Int),xs=[.ref p]∧SqL X.K H p (ns.map V.int)∧0<ns.length∧Q (.int (nO ns)) H):=by
 intro pins s σ H xs us Q I r h
 obtain⟨a,ns,rfl,hq,h0,q⟩:=h
 obtain⟨u,rfl,r1⟩:=r.one
 cases (show u=_ from r1)
 obtain⟨aB,rv,pl,hz⟩:=I.list hq
 have hi:IntsAre aB ns:=by simpa using intsAre_of rv
 obtain⟨xs,hx,hsz,vg⟩:=nE hi
 obtain⟨g1,g2⟩:=argBest_gt (numAt xs) (xs.size - 1)
 refine max_intList (I.ok.hd hc) (show s.heap.IsList a (intItems xs) from hx▸pl.isList) (by omega) fun v h' tk hv hk=>?_
 obtain⟨t,rfl⟩:=intItems_at hv
 have hM:=vg (argBest (fun i j=>decide (numAt xs i>numAt xs j)) (xs.size - 1)) (by omega)
 obtain⟨m1,m2⟩:=qd h0
 have e:numAt xs (argBest (fun i j=>decide (numAt xs i>numAt xs j)) (xs.size - 1))=nO ns:=by
  refine Int.le_antisymm (m2 _ hM.1) ?_
  obtain⟨j,hj,e⟩:=List.getElem_of_mem m1
  have h2:=(vg j (by omega)).2
  rw[List.getElem?_eq_getElem hj,e] at h2
  rw[Option.some.inj h2]
  exact g2 j (by omega)
 rw[e]
 exact⟨.int (nO ns),H,I.kept hk,⟨_,rfl⟩,q⟩
theorem yj(hc:X.calm=true):CallR X (.builtin "min") (fun xs H Q=>∃(p:Addr) (ns:List Int),xs=[.ref p]∧SqL X.K H p (ns.map V.int)∧0<ns.length∧Q (.int (cT ns)) H):=by
 intro pins s σ H xs us Q I r h
 obtain⟨a,ns,rfl,hq,h0,q⟩:=h
 obtain⟨u,rfl,r1⟩:=r.one
 cases (show u=_ from r1)
 obtain⟨aB,rv,pl,hz⟩:=I.list hq
 have hi:IntsAre aB ns:=by simpa using intsAre_of rv
 obtain⟨xs,hx,hsz,vg⟩:=nE hi
 obtain⟨g1,g2⟩:=argBest_lt (numAt xs) (xs.size - 1)
 refine min_intList (I.ok.hd hc) (show s.heap.IsList a (intItems xs) from hx▸pl.isList) (by omega) fun v h' tk hv hk=>?_
 obtain⟨t,rfl⟩:=intItems_at hv
 have hM:=vg (argBest (fun i j=>decide (numAt xs i<numAt xs j)) (xs.size - 1)) (by omega)
 obtain⟨m1,m2⟩:=kK h0
 have e:numAt xs (argBest (fun i j=>decide (numAt xs i<numAt xs j)) (xs.size - 1))=cT ns:=by
  refine Int.le_antisymm ?_ (m2 _ hM.1)
  obtain⟨j,hj,e⟩:=List.getElem_of_mem m1
  have h2:=(vg j (by omega)).2
  rw[List.getElem?_eq_getElem hj,e] at h2
  rw[Option.some.inj h2]
  exact g2 j (by omega)
 rw[e]
 exact⟨.int (cT ns),H,I.kept hk,⟨_,rfl⟩,q⟩
theorem r0(hc:X.calm=true)(hg:Gl X "min")(hm:X.mg "min"=none)(hb:bootBuiltins "min"=some (.builtin "min"))(ha:lu X Xw [e] δs)(he:starEach [e] X.env=[(false,eval e X.env)]:=by rfl):PD X Xw (.Call (.Name "min" p) [e] [] pos) (dA gO δs):=
 dN (yj hc) (fun Xw F H vs ds Q s h w=>by
  unfold gO at w
  split at w
  ·rename_i ds
   obtain⟨v,rfl,h1⟩:=h.one
   obtain⟨a,ws,rfl,h2,h3,h4⟩:=h1
   split at w
   ·rename_i ns J6
    split at w
    ·rename_i h0
     have e:=g6 J6 h3
     subst e
     exact⟨a,ns,rfl,SqL.of (s _ _ h2),h0,WP.now w s rfl⟩
    ·exact w.elim
   ·exact w.elim
  ·exact w.elim) hg hm hb ha (by decide) (by decide) he rfl
end
end L3
namespace L3
open PySem PySem.Spec L2
open PyProof.Rows hiding St
section
variable{X:Cx}{Xw:Nat→Hp→Prop}{a b:Expr}{δa δb:DE}{pos:Pos}
theorem BD(ha:PD X Xw a δa)(hb:PD X Xw b δb):ku X Xw (.Compare a [.GtE] [b] pos) (b9 (d2 CI δa δb)):=dP Ja (qj fun _ _ _=>rfl) ha hb
end
section
variable{prog:Program}{w:World}{A:Around}{E:Value→Shared→Prop}{s:Shared}
structure ZipS (h:Heap) (z TI TO i1 i2:Addr):Prop where
 z:∃f0 f1,h.get? z=some {cls:= .type "zip",dict:=none,data:= .fields #[f0,f1, .bool false, .ref TI, .ref TO],slots:= #[]}∧(f1= .bool false∨f1= .bool true)∧(f0= .none∨∃(T:Addr) (o:Obj),f0=rawInt (T:Nat)∧T≠z∧T≠TO∧T≠i1∧T≠i2∧h.get? T=some o)
 ti:IsPair h TI (.ref i1) (.ref i2)
 to:∃a b,IsPair h TO a b
structure ZAp (z TI TO i1 i2:Addr) (f1 f2:List Addr):Prop where
 TIz:TI≠z
 TITO:TI≠TO
 TIi1:TI≠i1
 TIi2:TI≠i2
 TOz:TO≠z
 TOi1:TO≠i1
 TOi2:TO≠i2
 i1z:i1≠z
 i2z:i2≠z
 i12:i1≠i2
 z1:z∉f1
 z2:z∉f2
 t1:TO∉f1
 t2:TO∉f2
 a2:i1∉f2
 b1:i2∉f1
variable{z TI TO i1 i2:Addr}{p1 p2:List Addr}{n1 n2 k:Nat}{P1 P2:Nat→Value→Prop}{S1 S2:Nat→Heap→Prop}
end
section
variable{prog:Program}{w:World}{A:Around}{E:Value→Shared→Prop}{s:Shared}
variable{z TI TO i1 i2:Addr}{p1 p2:List Addr}{n1 n2 k:Nat}{P1 P2:Nat→Value→Prop}{S1 S2:Nat→Heap→Prop}
end
section
variable{prog:Program}{w:World}{A:Around}{E:Value→Shared→Prop}{s:Shared}
end
section
variable{X:Cx}{Xw:Nat→Hp→Prop}{e e2:Expr}{δs:DA}{pos uC p p2:Pos}
end
end L3
namespace L3
open PySem PySem.Spec L2 SeqAt HT
open PyProof.Rows hiding St
section
variable{X:Cx}{Xw:Nat→Hp→Prop}{a b e o:Expr}{δ δa δb δo:DE}{δs:DA}{pos p apos aQ:Pos}
def Lw(n:Int):Value→Bool
 | .int i _=>i==n
 |_=>false
def tW:D→List D→M D
 | .lst ds,[.int n]=>match nums ds with
   |some ns=>if ns.contains n then M.ret (.int (ns.idxOf n)) else M.stuck
   |none=>M.stuck
 |_,_=>M.stuck
def Jr(K:W.Frag):V→List V→Hp→VK→Prop:=fun x vs H Q=>∃(a:Addr) (ns:List Int) (n:Int),x= .ref a∧vs=[.int n]∧H a=some (.lst (ns.map V.int))∧ns.contains n=true∧Q (.int (ns.idxOf n)) H
theorem Dg:JM X "list.index" (Jr X.K):=by
 intro pins s σ H x vs v us Q I rx rv h
 obtain⟨a,ns,n,rfl,rfl,hH,hc,q⟩:=h
 cases rx
 obtain⟨u,rfl,r1⟩:=rv.one
 obtain⟨t,rfl⟩:=r1
 obtain⟨z,aB,m,r,hl,e⟩:=I.lstM hH
 have hlen:=r.length
 rw[List.length_map] at hlen
 have at':∀i (h:i<aB.length),∃t,aB[i]= .int (ns[i]'(by omega)) t:=fun i h=>by
  have q:=iZ i r (by rw[List.length_map];omega)
  rw[List.getD_eq_getElem?_getD,List.getElem?_map,List.getElem?_eq_getElem (by omega:i<ns.length),List.getD_eq_getElem?_getD,List.getElem?_eq_getElem h] at q
  exact q
 have hm:n∈ns:=by simpa using hc
 have eZ:ns.idxOf n<ns.length:=List.idxOf_lt_length_iff.mpr hm
 have hz:ns.length≤sizeLine:=by simpa using z
 have hs:sizeLine=16777216:=sizeLine_eq
 refine call_meets F.slot_list_index ⟨_,e,rfl⟩ F.entry_list_index (F.args_list_index_2 _ _) (list_indexAt a _ m none #[] (.int n t) (Lw n) (ns.idxOf n) (by simp;omega) (by omega) ?_ ?_) ⟨e,fun y hy=>?_,?_⟩
 ·obtain⟨t',e1⟩:=at' (ns.idxOf n) (by omega)
  have:ns[ns.idxOf n]=n:=List.getElem_idxOf eZ
  simp[Lw,e1,this]
 ·intro k Hb CP
  have NV:k<aB.length:=by simpa using Hb
  obtain⟨t',e1⟩:=at' k NV
  have:ns[k]'(by omega)≠n:=fun z=>by
   have:=List.not_of_lt_findIdx (p:=(· ==n)) (xs:=ns) (i:=k) CP
   rw[z] at this
   simp at this
  simp[Lw,e1,this]
 ·have hy:y∈aB:=by simpa using hy
  obtain⟨i,hi,rfl⟩:=List.getElem_of_mem hy
  obtain⟨t',e1⟩:=at' i hi
  rw[e1]
  exact EqAt.int_int _ _ _ _
 ·exact⟨.int (ns.idxOf n),H,I.tok _,⟨_,rfl⟩,q⟩
theorem Dz(ho:PD X Xw o δo)(ha:lu X Xw [e] δs)(f7:attributeBase o "index" X.env (eval o X.env)=eval o X.env:=by rfl)
 (nv:((backTo aQ (starEach [e] X.env)).all (fun x=>!x.1)&&(backToKw aQ (keywordEach [] X.env)).all (fun x=>x.1.isSome)&&decide ([e].length+([]:List Keyword).length+(if ([]:List Keyword).isEmpty then 0 else 1)<30))=true:=by rfl)
 (f9:(apos.endLine==aQ.line)=true:=by rfl)(vi:starEach [e] X.env=[(false,eval e X.env)]:=by rfl):PD X Xw (.Call (.Attribute o "index" apos) [e] [] aQ) (dM p0 tW δo δs):=
 EZ PySem.F.plainAttrs_list PySem.F.slot_list_index PySem.F.type_list_index Dg AA (fun Xw F H x vs d ds Q s hx hv w=>by
  unfold tW at w
  split at w
  ·rename_i ds n
   obtain⟨v,rfl,h1⟩:=hv.one
   cases (show _=_ from h1)
   obtain⟨a,ws,rfl,h2,h3,_⟩:=hx
   split at w
   ·rename_i ns hb
    split at w
    ·rename_i hc
     exact⟨a,ns,n,rfl,rfl,by rw[←g6 hb h3];exact s _ _ h2,hc,WP.now w s rfl⟩
    ·exact w.elim
   ·exact w.elim
  ·exact w.elim) ho ha f7 nv f9 vi rfl
end
section
variable{prog:Program}{w:World}{A:Around}{E:Value→Shared→Prop}{s:Shared}
theorem AM{items:Array Value}{bt:Nat→Nat→Bool}{I L S:Addr}{good:Heap→Prop}{R:Result→Shared→Prop}(hh:A.handled=none)(g0:L≠I)(Fx:S≠I)(JY:S≠L)
 (hg:∀h h',(∀c o,c≠I→c≠S→h.get? c=some o→h'.get? c=some o)→good h→good h')
 (FC:∀(i j:Nat) (x y:Value) (h':Heap) (tk:Nat) (Q':Value→Shared→Prop) (E':Value→Shared→Prop),items[i]? =some x→items[j]? =some y→good h'→(∀Kn,Q' (.bool (bt i j)) {s with heap:=h',toks:=Kn})→wpAny (model prog w) A.in1 (richCompare .Lt x y) Q' E' {s with heap:=h',toks:=tk})
 (hR:∀v h' tk,items[argBest bt (items.size - 1)]? =some v→good h'→R (.ok (.ret v)) {s with heap:=h',toks:=tk}):
 ∀(k j:Nat) (h:Heap) (tk:Nat) (vb:Value) (c:Nat),items.size - (j+1)=k→j+1≤items.size→good h→(h.IsListIter I L (j+1)∧h.IsList L items)→items[argBest bt j]? =some vb→
  h.get? S=some {cls:= .type "list",dict:=none,data:= .seq #[vb,vb] c,slots:= #[]}→codeAny (model prog w) A (.builtin "min.loop" ⟨[.ref I, .none, .ref S],[]⟩) R {s with heap:=h,toks:=tk}:=by
 have tV:(toString "min"++toString ".loop":String)="min.loop":=by decide
 have W:=Walks.list (prog:=prog) (w:=w) (A:=A.in1) hh I L g0 items
 have nI:∀{c:Addr},c≠I→c∉[I]:=fun q z=>q (List.mem_singleton.mp z)
 have fr:∀{i:Nat}{h:Heap}{f:Obj→Obj},(h.IsListIter I L i∧h.IsList L items)→((h.update S f).IsListIter I L i∧(h.update S f).IsList L items):=fun {i h f} q=>W.frame _ _ _ q fun c hc o e=>(Heap.get?_update_other _ _ (fun z:S=c=>by
  subst z
  rcases List.mem_cons.mp hc with z | z
  ·exact Fx z
  ·exact JY (List.mem_singleton.mp z))).trans e
 have up:∀{h:Heap}{f:Obj→Obj},good h→good (h.update S f):=fun q=>hg _ _ (fun c o _ hc e=>(Heap.get?_update_other _ _ (Ne.symm hc)).trans e) q
 intro k
 induction k with
 |zero=>
  intro j h tk vb c hk hj g st hb hS
  have Ap:j+1=items.size:=by omega
  refine codeAny_builtin F.entry_min_loop ?_
  rw[Around.under_plainId F.plain_min_loop _]
  show wpAny _ A.in1 (seqItems? (.ref S)>>=_) _ _ _
  refine wpAny_bind (wpAny_seqItems hS rfl ?_)
  show wpAny _ A.in1 (tryCatch (pyNext (.ref I)) _>>=_) _ _ _
  refine wpAny_bind (wpAny_tryCatch (W.done _ _ _ (by rw[←Ap];exact st) fun h4 t4 k4=>?_))
  have S4:=k4 S _ (nI Fx) hS
  show wpAny _ A.in1 (updateSeq S (fun _=> #[])>>=_) _ _ _
  refine wpAny_bind ?_
  refine wpAny_updateSeq S4 rfl (wpAny_bind (wpAny_letGo (wpAny_pure ?_)))
  exact hR vb _ _ (by rw[←Ap];exact hb) (up (hg _ _ (fun c o hc _ e=>k4 c o (nI hc) e) g))
 |succ k ih=>
  intro j h tk vb c hk hj g st hb hS
  have eZ:j+1<items.size:=by omega
  refine codeAny_builtin F.entry_min_loop ?_
  rw[Around.under_plainId F.plain_min_loop _]
  show wpAny _ A.in1 (seqItems? (.ref S)>>=_) _ _ _
  refine wpAny_bind (wpAny_seqItems hS rfl ?_)
  show wpAny _ A.in1 (tryCatch (pyNext (.ref I)) _>>=_) _ _ _
  refine wpAny_bind (wpAny_tryCatch (W.item (j+1) _ _ _ eZ st fun v h1 t1 hP vk k1=>?_))
  have S1:=k1 S _ (nI Fx) hS
  have g1:good h1:=hg _ _ (fun c o hc _ e=>k1 c o (nI hc) e) g
  show wpAny _ A.in1 (tryCatch (holding [v,v] (richCompare .Lt v vb>>=_)) _>>=_) _ _ _
  refine wpAny_bind (wpAny_tryCatch (wpAny_holding (wpAny_bind (FC (j+1) (argBest bt j) v vb _ _ _ _ hP hb g1 fun Kn=>?_))))
  refine wpAny_bind (wpAny_holding (wpAny_truthy_bool ?_))
  refine wpAny_bind (wpAny_letGo (wpAny_pure ?_))
  cases MA:bt (j+1) (argBest bt j) with
  |true=>
   simp only[if_true]
   refine wpAny_bind ?_
   refine wpAny_updateSeq S1 rfl (wpAny_bind (wpAny_letGo ?_))
   rw[tV]
   exact wpAny_pure ⟨plainId_quiet F.plain_min_loop _,ih (j+1) _ _ v _ (by omega) eZ (up g1) (fr vk) (by simp only[argBest,MA,if_true];exact hP) (Heap.get?_update_self _ S1 rfl)⟩
  |false=>
   simp only[Bool.false_eq_true,if_false]
   refine wpAny_bind (wpAny_letGo ?_)
   rw[tV]
   exact wpAny_pure ⟨plainId_quiet F.plain_min_loop _,ih (j+1) _ _ vb c (by omega) eZ g1 vk (by simp only[argBest,MA,Bool.false_eq_true,if_false];exact hb) S1⟩
theorem rD{L:Addr}{items:Array Value}{bt:Nat→Nat→Bool}{Q:Value→Shared→Prop}(hh:A.handled=none)(hL:s.heap.IsList L items)(hn:0<items.size)
 (FC:∀(i j:Nat) (x y:Value) (h':Heap) (tk:Nat) (Q':Value→Shared→Prop) (E':Value→Shared→Prop),items[i]? =some x→items[j]? =some y→(∀c o,s.heap.get? c=some o→h'.get? c=some o)→(∀Kn,Q' (.bool (bt i j)) {s with heap:=h',toks:=Kn})→wpAny (model prog w) A.in1 (richCompare .Lt x y) Q' E' {s with heap:=h',toks:=tk})
 (h:∀v h' tk,items[argBest bt (items.size - 1)]? =some v→(∀c o,s.heap.get? c=some o→h'.get? c=some o)→Q v {s with heap:=h',toks:=tk}):
 wpAny (model prog w) A (call (.builtin "min") [.ref L]) Q E s:=by
 have tV:(toString "min"++toString ".loop":String)="min.loop":=by decide
 refine call_function_tree F.kind_min F.plain_min F.entry_min (F.args_min1 _) ?_
 show wpAny _ A.in1 (Builtin.Builtins.bindParams "min" ["key","default"] 0 ⟨[],[]⟩>>=_) _ _ s
 refine wpAny_bind (wpAny_of_eq (show Builtin.Builtins.bindParams "min" ["key","default"] 0 ⟨[],[]⟩=pure [none,none] from rfl) ?_)
 refine wpAny_bind (wpAny_pure ?_)
 refine wpAny_bind (wpAny_pyIter_list hL ?_)
 refine wpAny_bind (wpAny_newObj_type ?_)
 rw[tV]
 refine wpAny_pure ⟨plainId_quiet F.plain_min_loop _,?_⟩
 have lL:L<s.heap.objs.size:=by obtain⟨o,e,_⟩:=hL;exact Heap.lt_size e
 have hsz:(s.heap.push {cls:= .type "list_iterator",data:= .fields #[.ref L, .int 0 0]}).objs.size=s.heap.objs.size+1:=Heap.size_push ..
 have Mv:L≠s.heap.objs.size:=Nat.ne_of_lt lL
 have Fx:(s.heap.push {cls:= .type "list_iterator",data:= .fields #[.ref L, .int 0 0]}).objs.size≠s.heap.objs.size:=by rw[hsz];exact Nat.ne_of_gt (Nat.lt_succ_self _)
 have JY:(s.heap.push {cls:= .type "list_iterator",data:= .fields #[.ref L, .int 0 0]}).objs.size≠L:=by rw[hsz];exact Nat.ne_of_gt (Nat.lt_succ_of_lt lL)
 have W:=Walks.list (prog:=prog) (w:=w) (A:=A.in1) (by simp[hh]) s.heap.objs.size L Mv items
 have nI:∀{c:Addr},c≠s.heap.objs.size→c∉[s.heap.objs.size]:=fun q z=>q (List.mem_singleton.mp z)
 have gd:∀h h':Heap,(∀c o,c≠s.heap.objs.size→c≠(s.heap.push {cls:= .type "list_iterator",data:= .fields #[.ref L, .int 0 0]}).objs.size→h.get? c=some o→h'.get? c=some o)→(∀c o,s.heap.get? c=some o→h.get? c=some o)→∀c o,s.heap.get? c=some o→h'.get? c=some o:=fun h h' k g c o e=>by
  have:=Heap.lt_size e
  exact k c o (Nat.ne_of_lt this) (by rw[hsz];exact Nat.ne_of_lt (Nat.lt_succ_of_lt this)) (g c o e)
 generalize hS:(s.heap.push {cls:= .type "list_iterator",data:= .fields #[.ref L, .int 0 0]}).objs.size=S at*
 have Mz:((s.heap.push {cls:= .type "list_iterator",data:= .fields #[.ref L, .int 0 0]}).push {cls:= .type "list",data:= .seq #[]}).get? S=some {cls:= .type "list",dict:=none,data:= .seq #[] 0,slots:= #[]}:=by rw[←hS];exact Heap.get?_push_size _ rfl
 have k0:∀c o,s.heap.get? c=some o→((s.heap.push {cls:= .type "list_iterator",data:= .fields #[.ref L, .int 0 0]}).push {cls:= .type "list",data:= .seq #[]}).get? c=some o:=fun c o e=>Heap.get?_push_of_some _ (Heap.get?_push_of_some _ e)
 have OO:((s.heap.push {cls:= .type "list_iterator",data:= .fields #[.ref L, .int 0 0]}).push {cls:= .type "list",data:= .seq #[]}).IsListIter s.heap.objs.size L 0:=⟨_,Heap.get?_push_of_some _ (Heap.get?_push_size _ rfl),rfl,rfl⟩
 have Ny:((s.heap.push {cls:= .type "list_iterator",data:= .fields #[.ref L, .int 0 0]}).push {cls:= .type "list",data:= .seq #[]}).IsList L items:=by
  obtain⟨o,e,q⟩:=hL
  exact⟨o,k0 _ _ e,q⟩
 generalize ((s.heap.push {cls:= .type "list_iterator",data:= .fields #[.ref L, .int 0 0]}).push {cls:= .type "list",data:= .seq #[]})=h0 at*
 refine codeAny_builtin F.entry_min_loop ?_
 rw[Around.under_plainId F.plain_min_loop _]
 show wpAny _ A.in1 (seqItems? (.ref S)>>=_) _ _ _
 refine wpAny_bind (wpAny_seqItems Mz rfl ?_)
 show wpAny _ A.in1 (tryCatch (pyNext (.ref s.heap.objs.size)) _>>=_) _ _ _
 refine wpAny_bind (wpAny_tryCatch (W.item 0 _ _ _ hn ⟨OO,Ny⟩ fun v h1 t1 hP vk k1=>?_))
 have S1:=k1 S _ (nI Fx) Mz
 show wpAny _ A.in1 (updateSeq S (fun _=> #[v,v])>>=_) _ _ _
 refine wpAny_bind ?_
 refine wpAny_updateSeq S1 rfl ?_
 rw[tV]
 refine wpAny_pure ⟨plainId_quiet F.plain_min_loop _,?_⟩
 have g1:∀c o,s.heap.get? c=some o→(h1.update S (·.mapSeq fun _=> #[v,v])).get? c=some o:=fun c o e=>by
  have:=Heap.lt_size e
  have NH:c≠S:=by rw[←hS,Heap.size_push];exact Nat.ne_of_lt (Nat.lt_succ_of_lt this)
  exact(Heap.get?_update_other _ _ (Ne.symm NH)).trans (k1 c o (nI (Nat.ne_of_lt this)) (k0 c o e))
 refine AM (A:=A) (s:=s) (bt:=bt) (I:=s.heap.objs.size) (L:=L) (S:=S) (good:=fun h'=>∀c o,s.heap.get? c=some o→h'.get? c=some o) (by simp[hh]) Mv Fx JY gd (fun i j x y h' tk Q' E' a1 a2 a3 a4=>?_) (fun v h' tk q g=>h v h' tk q g) (items.size - 1) 0 _ _ v _ (by omega) hn g1 ?_ hP (Heap.get?_update_self _ S1 rfl)
 ·exact FC i j x y h' tk Q' E' a1 a2 a3 a4
 ·exact W.frame _ _ _ vk fun c hc o e=>(Heap.get?_update_other _ _ (fun z:S=c=>by
   subst z
   rcases List.mem_cons.mp hc with z | z
   ·exact Fx z
   ·exact JY (List.mem_singleton.mp z))).trans e
end
section
variable{X:Cx}{Xw:Nat→Hp→Prop}{a b e:Expr}{δa δb:DE}{δs:DA}{pos p:Pos}
def dw(ks:List (List Int)):Nat:=argBest (fun i j=>HT.lexLt (ks.getD i []) (ks.getD j [])) (ks.length - 1)
def rC:List D→M D
 |[.lst ds]=>match js ds with
  |some ks=>if 0<ks.length∧(ks.getD (dw ks) []).length≤lim then M.ret (tupI (ks.getD (dw ks) [])) else M.stuck
  |none=>M.stuck
 |_=>M.stuck
theorem jj(bt:Nat→Nat→Bool):∀k,argBest bt k≤k
 |0=>Nat.le_refl _
 |k+1=>by
  have:=jj bt k
  simp only[argBest]
  split<;>omega
theorem vy(hc:X.calm=true)(hu:X.A.units+64<cLine):CallR X (.builtin "min") (fun xs H Q=>∃(p:Addr) (ws:List V) (ks:List (List Int)),xs=[.ref p]∧SqL X.K H p ws∧df H ws ks∧0<ks.length∧Q (ws.getD (dw ks) .non) H):=by
 intro pins s σ H xs us Q I r h
 obtain⟨a,ws,ks,rfl,hq,hr,h0,q⟩:=h
 obtain⟨u,rfl,r1⟩:=r.one
 cases (show u=_ from r1)
 obtain⟨aB,rv,pl,hz⟩:=I.list hq
 have h1:=j_ hr
 have h2:=rv.length
 have hsz:aB.toArray.size=ks.length:=by rw[List.size_toArray];omega
 have at':∀(i:Nat) (x:Value),aB.toArray[i]? =some x→∃ad us,ws.getD i .non= .ref ad∧x= .ref ad∧IntsAre us (ks.getD i [])∧s.heap.IsTuple ad us.toArray:=fun i x hx=>by
  have hi:i<aB.length:=by simpa using (Array.getElem?_eq_some_iff.mp hx).1
  obtain⟨ad,e1,e2⟩:=j9 hr (i:=i) (by omega)
  have r:=iZ i rv (by omega)
  rw[e1] at r
  have r:aB.getD i Value.none= .ref ad:=r
  obtain⟨us,ru,pt,_⟩:=I.tuple (SqT.of (K:=X.K) e2)
  refine⟨ad,us,e1,?_,by simpa using intsAre_of ru,pt⟩
  rw[List.getElem?_toArray] at hx
  rw[List.getD_eq_getElem?_getD,hx] at r
  exact r
 refine rD (bt:=fun i j=>HT.lexLt (ks.getD i []) (ks.getD j [])) (I.ok.hd hc) pl.isList (by omega) (fun i j x y h' tk Q' E' hx hy k FJ=>?_) fun v h' tk hv k=>?_
 ·obtain⟨d1,u1,_,rfl,i1,t1⟩:=at' i x hx
  obtain⟨d2,u2,_,rfl,i2,t2⟩:=at' j y hy
  obtain⟨o1,e1,q1⟩:=t1
  obtain⟨o2,e2,q2⟩:=t2
  exact HT.lt_tupInts (s:={s with heap:=h',toks:=tk}) ⟨o1,k _ _ e1,q1⟩ ⟨o2,k _ _ e2,q2⟩ (by simpa using i1) (by simpa using i2) (by show X.A.units+1<cLine;omega) (FJ tk)
 ·rw[hsz] at hv
  obtain⟨ad,us,e1,rfl,_,_⟩:=at' _ v hv
  exact⟨_,H,I.kept k,(by rw[show dw ks=argBest (fun i j=>HT.lexLt (ks.getD i []) (ks.getD j [])) (ks.length - 1) from rfl,e1];rfl),q⟩
theorem Bf(hu:X.A.units+64<cLine)(hc:X.calm=true)(hg:Gl X "min")(hm:X.mg "min"=none)(hb:bootBuiltins "min"=some (.builtin "min"))(ha:lu X Xw [e] δs)(he:starEach [e] X.env=[(false,eval e X.env)]:=by rfl):PD X Xw (.Call (.Name "min" p) [e] [] pos) (dA rC δs):=
 dN (vy hc hu) (fun Xw F H vs ds Q s h w=>by
  unfold rC at w
  split at w
  ·rename_i ds
   obtain⟨v,rfl,h1⟩:=h.one
   obtain⟨a,ws,rfl,h2,h3,h4⟩:=h1
   split at w
   ·rename_i ks K_
    split at w
    ·rename_i h0
     obtain⟨r1,r2⟩:=pZ s K_ h3
     have eZ:dw ks<ks.length:=by
      have:=jj (fun i j=>HT.lexLt (ks.getD i []) (ks.getD j [])) (ks.length - 1)
      have:dw ks≤ks.length - 1:=this
      omega
     obtain⟨ad,e1,e2⟩:=j9 r2 (i:=dw ks) (by rw[j_ r2];exact eZ)
     refine⟨a,ws,ks,rfl,SqL.of (s _ _ h2),r1,h0.1,WP.now w s ?_⟩
     rw[e1]
     exact⟨ad,_,rfl,e2,pP,by rw[List.length_map];exact h0.2⟩
    ·exact w.elim
   ·exact w.elim
  ·exact w.elim) hg hm hb ha (by decide) (by decide) he rfl
def anyF(x:D):List D→Option Bool
 |[]=>some false
 |y::ys=>match lA 6 y x,anyF x ys with
  |some p,some q=>some (p||q)
  |_,_=>none
def Ac(neg:Bool):D→D→M D
 |x, .lst ys=>match anyF x ys with
  |some r=>M.ret (.bl (if neg then !r else r))
  |none=>M.stuck
 |_,_=>M.stuck
theorem wX{pins:List (Addr×Obj)}{σ:St}{F H:Hp}{s:Shared}{A:Around}{x:D}{v:V}{u:Value}(I:Inv X pins σ H s)(hs:Same F H)(hu:A.units+6<cLine)(hx:Den X.K F x v)(rx:RelV v u):
 ∀{ys:List D}{vs:List V}{aB:List Value}{r:Bool},anyF x ys=some r→DenL X.K F ys vs→Vals vs aB→∃f:List Bool,f.length=aB.length∧f.any id=r∧∀i (h:i<aB.length),EqAt A s aB[i] u (f.getD i false)
 |[],_,_,_,e,h,r=>by
  cases e
  cases (show _=_ from h)
  cases r
  exact⟨[],rfl,rfl,fun i h=>absurd h (Nat.not_lt_zero _)⟩
 |y::ys,_,_,_,e,⟨w,ws,h1,h2,h3⟩,r=>by
  subst h1
  unfold anyF at e
  split at e
  ·rename_i p q e1 e2
   cases e
   cases r with
   | @cons _ t _ ts r1 r2=>
     obtain⟨f,l1,l2,l3⟩:=wX I hs hu hx rx e2 h3 r2
     refine⟨p::f,by simp[l1],by simp[←l2],fun i hi=>?_⟩
     cases i with
     |zero=>exact(rf I hs 6 A y x w v t u _ hu h2 hx r1 rx e1).eq
     |succ i=>exact l3 i (by simpa using hi)
  ·cases e
open Classical in
theorem Cu{pins:List (Addr×Obj)}{σ:St}{F H:Hp}{s:Shared}{A:Around}{x:D}{v:V}{u:Value}(I:Inv X pins σ H s)(hs:Same F H)(hu:A.units+6<cLine)(hx:Den X.K F x v)(rx:RelV v u){ys:List D}{vs:List V}{aB:List Value}{r:Bool}(e:anyF x ys=some r)(hd:DenL X.K F ys vs)(rv:Vals vs aB):
 ∃g:Value→Bool,aB.toArray.any g=r∧∀t∈aB.toArray,EqAt A s t u (g t):=by
 obtain⟨f,l1,l2,l3⟩:=wX I hs hu hx rx e hd rv
 have key:∀w,decide (∃i,aB[i]? =some w∧f.getD i false=true)=true↔∃i,aB[i]? =some w∧f.getD i false=true:=fun w=>decide_eq_true_iff
 refine⟨fun w=>decide (∃i,aB[i]? =some w∧f.getD i false=true),?_,fun t ht=>?_⟩
 ·rw[←l2,Bool.eq_iff_iff]
  simp only[List.any_toArray,List.any_eq_true,key]
  constructor
  ·rintro⟨w,_,i,e1,e2⟩
   have hi:i<f.length:=by rw[l1];exact(List.getElem?_eq_some_iff.mp e1).1
   rw[List.getD_eq_getElem?_getD,List.getElem?_eq_getElem hi] at e2
   exact⟨_,List.getElem_mem hi,e2⟩
  ·rintro⟨b,hb,e1⟩
   obtain⟨i,hi,rfl⟩:=List.getElem_of_mem hb
   refine⟨aB[i]'(by omega),List.getElem_mem _,i,List.getElem?_eq_getElem _,?_⟩
   rw[List.getD_eq_getElem?_getD,List.getElem?_eq_getElem hi]
   exact e1
 ·have ht:t∈aB:=by simpa using ht
  by_cases h:∃i,aB[i]? =some t∧f.getD i false=true
  ·obtain⟨i,e1,e2⟩:=id h
   obtain⟨hi,e3⟩:=List.getElem?_eq_some_iff.mp e1
   have:=l3 i hi
   rw[e2,e3] at this
   show EqAt A s t u (decide (∃i,aB[i]? =some t∧f.getD i false=true))
   rw[decide_eq_true h]
   exact this
  ·obtain⟨i,hi,rfl⟩:=List.getElem_of_mem ht
   have:=l3 i hi
   have e2:f.getD i false=false:=by
    cases q:f.getD i false with
    |false=>rfl
    |true=>exact absurd ⟨i,List.getElem?_eq_getElem hi,q⟩ h
   rw[e2] at this
   show EqAt A s aB[i] u (decide (∃j,aB[j]? =some aB[i]∧f.getD j false=true))
   rw[decide_eq_false h]
   exact this
def Js(K:W.Frag)(neg:Bool):R2:=fun x y H Q=>∃F dx ys vs p r,Same F H∧Den K F dx x∧anyF dx ys=some r∧DenL K F ys vs∧y= .ref p∧SqL K H p vs∧Q (.bl (if neg then !r else r)) H
theorem y8(hu:X.A.units+64<cLine):OpR X (compareOp .NotIn) (Js X.K true):=by
 intro pins s σ H x y v u Q I rx ry h
 obtain⟨F,dx,ys,vs,p,r,hs,hx,ex,hd,rfl,hq,q⟩:=h
 cases (show u=_ from ry)
 have Om:X.A.in1.units+6<cLine:=by show X.A.units+1+6<cLine;omega
 obtain⟨aB,rv,pl,hz⟩:=I.list hq
 obtain⟨g,e1,e2⟩:=Cu (A:=X.A.in1) I hs Om hx rx ex hd rv
 refine SeqAt.notIn_listAt g pl.isList e2 ⟨.bl _,H,I,rfl,?_⟩
 rw[e1]
 exact q
theorem FO{neg:Bool}{K:W.Frag}:sZ K (Js K neg) (Ac neg):=fun Xw F H x y dx dy Q s hx hy w=>by
 unfold Ac at w
 split at w
 ·rename_i ys
  split at w
  ·rename_i r e1
   obtain⟨p,vs,h1,h2,h3,_⟩:=hy
   exact⟨F,dx,ys,vs,p,r,s,hx,e1,h3,h1,SqL.of (s _ _ h2),WP.now w s rfl⟩
  ·exact w.elim
 ·exact w.elim
theorem zg(hu:X.A.units+64<cLine)(ha:PD X Xw a δa)(hb:PD X Xw b δb)(hm:behindInMarks .NotIn b=false:=by rfl):ku X Xw (.Compare a [.NotIn] [b] pos) (b9 (d2 (Ac true) δa δb)):=dP (y8 hu) FO ha hb hm
end
end L3
namespace L3
open PySem PySem.Spec L2
open PyProof.Rows hiding St
section
variable{prog:Program}{w:World}{A:Around}{E:Value→Shared→Prop}{s:Shared}
theorem wM{d:Addr}{od:Obj}{es:Array DictEntry}{ep:Nat}{Q:Value→Shared→Prop}(lo:(d==sysModules)=false)(ho:s.heap.get? d=some od)(hx:od.ExactDict)(hd:od.data= .dict es ep)
 (hQ:Q (.ref s.heap.objs.size) {s with heap:=s.heap.push {cls:= .type "dict_items",data:= .fields #[.ref d]} }):wpAny (model prog w) A (call (.builtin "dict.items") [.ref d]) Q E s:=by
 have hT:s.TypeIs (.ref d) "dict":=⟨od,ho,hx.1⟩
 refine wpAny_call_entry F.slot_dict_items hT F.entry_dict_items ?_ (F.args_dict_items_1 _)
 unfold Builtin.«dict.items»
 refine wpAny_bind ?_
 unfold Builtin.Dict.noArgs
 refine wpAny_bind (wpAny_notOrdered_dict hT ?_)
 show wpAny _ _ (pure d) _ _ s
 refine wpAny_pure ?_
 show wpAny _ _ (Builtin.Dict.showsAll d>>=_) _ _ s
 unfold Builtin.Dict.showsAll
 rw[if_neg (by rw[lo];exact Bool.false_ne_true)]
 refine wpAny_bind (wpAny_pure ?_)
 exact wpAny_bind (wpAny_newObj_type (wpAny_pure ⟨_,rfl,hQ⟩))
theorem vP{v d:Addr}{od:Obj}{es:Array DictEntry}{ep:Nat}{Q:Value→Shared→Prop}(hv:s.heap.IsItemsView v d)(ho:s.heap.get? d=some od)(HY:od.data= .dict es ep)
 (hQ:Q (.ref s.heap.objs.size) {s with heap:=s.heap.push {cls:= .type "dict_itemiterator",data:= .fields #[.none, .bool false, .ref d, .int 0 0, .int es.size 0, .int ep 0, .none, .none]} }):
 wpAny (model prog w) A (pyIter (.ref v)) Q E s:=by
 obtain⟨ov,Oc,O4,NI⟩:=id hv
 refine wpAny_pyIter_slot hv.typeIs F.slot_dict_items_iter (wpAny_call_entry F.slot_dict_items_iter hv.typeIs F.entry_dict_items_iter ?_ (F.args_dict_items_iter_1 _))
 unfold Builtin.«dict_items.__iter__»
 refine wpAny_bind (wpAny_pure ?_)
 refine wpAny_bind ?_
 unfold Builtin.Dict_items.dictOf
 refine wpAny_bind (wpAny_field Oc NI (x:= .ref d) rfl (wpAny_pure ?_))
 refine wpAny_bind ?_
 unfold Builtin.Dict_items.newIterator
 refine wpAny_bind (wpAny_dictEntries ho HY ?_)
 refine wpAny_bind (wpAny_dictEpoch ho HY ?_)
 have rl:Builtin.Dict_items.ownsTuple "dict_itemiterator"=true:=by decide
 simp only[rl,if_true]
 refine wpAny_newObj_type (wpAny_pure ⟨_,rfl,"dict_itemiterator",_,⟨_,Heap.get?_push_size _ rfl,rfl⟩,F.slot_dict_itemiterator_next.lookup,?_⟩)
  (by simp only[sizeOk,Builtin.Dict_items.ownedTupleFields,List.size_toArray,List.length_append,List.length_cons,List.length_nil,sizeLine_eq];omega)
 simpa[rawInt,Builtin.Dict_items.ownedTupleFields] using hQ
theorem next_item{it d:Addr}{od:Obj}{es:Array DictEntry}{i ep:Nat}{e:DictEntry}{ok ov:Value}{Q:Option Value→Shared→Prop}(hit:IsItemIter s.heap it d i es.size ep ok ov)(rk:s.heap.get? d=some od)(gR:od.data= .dict es ep)(hx:es[i]? =some e)
 (hQ:∀h',IsItemIterOut h' it d (i+1) es.size ep e.key e.val s.heap.objs.size→h'.get? s.heap.objs.size=some {cls:= .type "tuple",data:= .seq #[e.key,e.val]}→h'.objs.size=s.heap.objs.size+1→
  (∀b o,b≠it→s.heap.get? b=some o→h'.get? b=some o)→Q (some (.ref s.heap.objs.size)) {s with heap:=h'}):
 wpAny (model prog w) A (pyNext (.ref it)) Q E s:=by
 obtain⟨hp,g,dr,tk,os⟩:=s
 have hT:Shared.TypeIs ⟨hp,g,dr,tk,os⟩ (.ref it) "dict_itemiterator":=⟨_,hit,rfl⟩
 unfold pyNext
 refine wpAny_bind (wpAny_attempt (wpAny_callSpecial?_slot (name:=Str.ofString "__next__") hT F.slot_dict_itemiterator_next
  (wpAny_call_entry F.slot_dict_itemiterator_next hT F.entry_dict_itemiterator_next ?_ (F.args_dict_itemiterator_next_1 _))))
 refine wpAny_bind (wpAny_pure ?_)
 refine wpAny_bind ?_
 refine wpAny_bind ?_
 first | refine wpAny_bind (wpAny_typeNameOfWhole_itemiter hT (wpAny_pure ?_)) | refine wpAny_bind (wpAny_typeNameOf_itemiter hT (wpAny_pure ?_))
 refine wpAny_bind (wpAny_fieldsOf hit rfl ?_)
 have rl:Builtin.Dict_items.ownsTuple "dict_itemiterator"=true:=by decide
 simp only[rl,if_true]
 show wpAny _ _ (if (Value.ref d==Value.none)=true then _ else _) _ _ _
 rw[if_neg (show¬((Value.ref d==Value.none)=true) from Bool.false_ne_true)]
 refine wpAny_bind (wpAny_pure ?_)
 refine wpAny_bind (wpAny_dictEntries rk gR ?_)
 rw[if_neg (by simp)]
 refine wpAny_bind (wpAny_pure ?_)
 refine wpAny_bind (wpAny_dictEpoch rk gR ?_)
 rw[if_neg (by simp)]
 refine wpAny_pure ?_
 simp only[show¬((i:Int)<0) from by omega,if_false,Int.toNat_natCast,hx]
 refine wpAny_bind ?_
 first | refine wpAny_bind (wpAny_typeNameOfWhole_itemiter hT (wpAny_pure ?_)) | refine wpAny_bind (wpAny_typeNameOf_itemiter hT (wpAny_pure ?_))
 refine wpAny_bind (wpAny_isOneOf_itemiter hT ?_)
 show wpAny _ _ (setField (.ref it) 3 (rawInt ((i:Int)+1))>>=_) _ _ ⟨hp,g,dr,tk,os⟩
 refine wpAny_bind (wpAny_setField_rec hit (by simp) fun h₁ H8 Iw=>?_)
 replace Iw:Heap.SameBut it hp h₁:=Iw
 replace H8:IsItemIter h₁ it d (i+1) es.size ep ok ov:=by
  have e:((i+1:Nat):Int)=(i:Int)+1:=by omega
  unfold IsItemIter;rw[e];simpa[rawInt] using H8
 have KN:Shared.TypeIs ⟨h₁,g,dr,tk,os⟩ (.ref it) "dict_itemiterator":=⟨_,H8,rfl⟩
 refine wpAny_bind (wpAny_holding ?_)
 refine wpAny_bind (wpAny_isOneOf_itemiter KN ?_)
 refine wpAny_bind (wpAny_isOneOf_itemiter KN ?_)
 show wpAny _ _ (Builtin.Dict_items.pairFromOwner (.ref it) 6 e.key e.val) _ _ ⟨h₁,g,dr,tk,os⟩
 unfold Builtin.Dict_items.pairFromOwner
 refine wpAny_bind (wpAny_newTuple ?_)
 have H9:IsItemIter (h₁.push {cls:= .type "tuple",data:= .seq #[e.key,e.val]}) it d (i+1) es.size ep ok ov:=Heap.get?_push_of_some _ H8
 generalize J3:h₁.push {cls:= .type "tuple",data:= .seq #[e.key,e.val]}=h₂ at H9
 have Kf:h₁.objs.size=hp.objs.size:=Iw.1
 have EJ:it<hp.objs.size:=Heap.lt_size hit
 have Ol:h₂.get? hp.objs.size=some {cls:= .type "tuple",data:= .seq #[e.key,e.val]}:=by rw[←J3,←Kf];exact Heap.get?_push_size _ rfl
 have OB:h₂.objs.size=hp.objs.size+1:=by rw[←J3,Heap.size_push,Kf]
 have NZ:∀b o,b≠it→hp.get? b=some o→h₂.get? b=some o:=fun b o hb e=>by rw[←J3];exact Heap.get?_push_of_some _ (Iw.extBut b o hb e)
 show wpAny _ _ (Builtin.Dict_items.ownedTupleIsFree (.ref it)>>=_) _ _ ⟨h₂,g,dr,tk,os⟩
 rw[Kf]
 clear J3 H8 Iw KN Kf h₁
 refine wpAny_bind ?_
 unfold Builtin.Dict_items.ownedTupleIsFree
 refine wpAny_bind (wpAny_field H9 rfl (x:= .none) rfl (wpAny_pure ?_))
 simp only[if_true]
 refine wpAny_bind (wpAny_field H9 rfl (x:=ok) rfl ?_)
 refine wpAny_bind (wpAny_field H9 rfl (x:=ov) rfl ?_)
 refine wpAny_bind (wpAny_setField_rec H9 (by simp) fun h₃ KU FK=>?_)
 replace FK:Heap.SameBut it h₂ h₃:=FK
 replace KU:IsItemIter h₃ it d (i+1) es.size ep e.key ov:=KU
 refine wpAny_bind (wpAny_setField_rec KU (by simp) fun h₄ KW Iy=>?_)
 replace Iy:Heap.SameBut it h₃ h₄:=Iy
 replace KW:IsItemIter h₄ it d (i+1) es.size ep e.key e.val:=KW
 refine wpAny_bind (wpAny_setField_rec KW (by simp) fun h₅ KY Iz=>?_)
 replace Iz:Heap.SameBut it h₄ h₅:=Iz
 replace KY:IsItemIterOut h₅ it d (i+1) es.size ep e.key e.val hp.objs.size:=KY
 refine wpAny_bind (wpAny_setField_rec KY (by simp) fun h₆ KZ IA=>?_)
 replace IA:Heap.SameBut it h₅ h₆:=IA
 replace KZ:IsItemIterOut h₆ it d (i+1) es.size ep e.key e.val hp.objs.size:=KZ
 refine wpAny_bind (wpAny_letGo (wpAny_pure (wpAny_pure ⟨_,rfl,wpAny_pure (hQ h₆ KZ ?_ ?_ ?_)⟩)))
 ·exact IA.extBut _ _ (Nat.ne_of_gt EJ) (Iz.extBut _ _ (Nat.ne_of_gt EJ) (Iy.extBut _ _ (Nat.ne_of_gt EJ) (FK.extBut _ _ (Nat.ne_of_gt EJ) Ol)))
 ·show h₆.objs.size=hp.objs.size+1
  rw[IA.1,Iz.1,Iy.1,FK.1,OB]
 ·exact fun b o hb e=>IA.extBut b o hb (Iz.extBut b o hb (Iy.extBut b o hb (FK.extBut b o hb (NZ b o hb e))))
theorem yw{it d:Addr}{od:Obj}{es:Array DictEntry}{i ep:Nat}{ok ov:Value}{Q:Option Value→Shared→Prop}(hh:A.handled=none)(hit:IsItemIter s.heap it d i es.size ep ok ov)(NP:es.size≤i)(rk:s.heap.get? d=some od)(gR:od.data= .dict es ep)
 (hQ:∀h',Heap.ExtBut it s.heap h'→Q none {s with heap:=h'}):wpAny (model prog w) A (pyNext (.ref it)) Q E s:=by
 have hT:s.TypeIs (.ref it) "dict_itemiterator":=⟨_,hit,rfl⟩
 unfold pyNext
 refine wpAny_bind (wpAny_attempt (wpAny_callSpecial?_slot (name:=Str.ofString "__next__") hT F.slot_dict_itemiterator_next
  (wpAny_call_entry F.slot_dict_itemiterator_next hT F.entry_dict_itemiterator_next ?_ (F.args_dict_itemiterator_next_1 _))))
 refine wpAny_bind (wpAny_pure ?_)
 refine wpAny_bind ?_
 refine wpAny_bind ?_
 first | refine wpAny_bind (wpAny_typeNameOfWhole_itemiter hT (wpAny_pure ?_)) | refine wpAny_bind (wpAny_typeNameOf_itemiter hT (wpAny_pure ?_))
 refine wpAny_bind (wpAny_fieldsOf hit rfl ?_)
 have rl:Builtin.Dict_items.ownsTuple "dict_itemiterator"=true:=by decide
 simp only[rl,if_true]
 show wpAny _ _ (if (Value.ref d==Value.none)=true then _ else _) _ _ s
 rw[if_neg (show¬((Value.ref d==Value.none)=true) from Bool.false_ne_true)]
 refine wpAny_bind (wpAny_pure ?_)
 refine wpAny_bind (wpAny_dictEntries rk gR ?_)
 rw[if_neg (by simp)]
 refine wpAny_bind (wpAny_pure ?_)
 refine wpAny_bind (wpAny_dictEpoch rk gR ?_)
 rw[if_neg (by simp)]
 refine wpAny_pure ?_
 simp only[show¬((i:Int)<0) from by omega,if_false,Int.toNat_natCast,Array.getElem?_eq_none NP]
 refine wpAny_bind ?_
 first | refine wpAny_bind (wpAny_typeNameOfWhole_itemiter hT (wpAny_pure ?_)) | refine wpAny_bind (wpAny_typeNameOf_itemiter hT (wpAny_pure ?_))
 show wpAny _ _ (setField (.ref it) 2 .none>>=_) _ _ s
 refine wpAny_bind (wpAny_setField hit rfl (by simp) ?_)
 show wpAny _ _ (newExc (.type "StopIteration") []>>=_) _ _ _
 refine wpAny_bind ?_
 simp only[newExc,newTuple]
 refine wpAny_bind (wpAny_newObj_type ?_ (by size_fits))
 refine wpAny_bind (m:=firstArgMember _ _) (wpAny_of_eq (a:=Value.none) (by first | rfl | (simp only[firstArgMember];rfl)) ?_)
 refine wpAny_newObj_type ?_ (by size_fits)
 simp only[raiseNew]
 refine wpAny_bind (wpAny_handled ?_)
 rw[show A.in1.handled=none from hh]
 refine wpAny_bind (wpAny_pure (wpAny_throw ?_))
 refine wpAny_bind (wpAny_isInstance (T:="StopIteration") (b:=true) ⟨_,Heap.get?_push_size _ rfl,rfl⟩ isSubtype_stop ?_)
 exact wpAny_pure (hQ _ (((Heap.SameBut.update ..).extBut.push _).push _))
theorem o_:entryFor table "dict_itemiterator.__iter__"=some Builtin.«dict_keyiterator.__iter__» :=entryFor_alias (id':="dict_keyiterator.__iter__") (by kernel_rfl) rfl (by decide+kernel) (by kernel_rfl)
theorem wA{it d:Addr}{i n ep:Nat}{ok ov:Value}{Q:Value→Shared→Prop}(hit:IsItemIter s.heap it d i n ep ok ov)(h:Q (.ref it) s):wpAny (model prog w) A (pyIter (.ref it)) Q E s:=by
 have hT:s.TypeIs (.ref it) "dict_itemiterator":=⟨_,hit,rfl⟩
 refine wpAny_pyIter_slot hT F.slot_dict_itemiterator_iter (wpAny_call_entry F.slot_dict_itemiterator_iter hT o_ ?_ (F.args_dict_itemiterator_iter_1 _))
 show wpAny _ _ (ret (.ref it)) _ _ s
 exact wpAny_pure ⟨_,rfl,"dict_itemiterator",_,hT,F.slot_dict_itemiterator_next.lookup,h⟩
end
def L_(d:Addr)(od:Obj):It:=
 ⟨fun i H=>∃aw,H d=some (.frz od (.dT aw))∧i<aw.length,fun i H x H'=>∃p aw k v b,x= .ref p∧H p=none∧H d=some (.frz od (.dT aw))∧aw[i]? =some (k,v)∧H b=some (.tup (k.map kV))∧H'=upd H p (.tup [.ref b,v]),
  fun i H=>∃aw,H d=some (.frz od (.dT aw))∧aw.length≤i⟩
theorem kB{X:Cx}{pins:List (Addr×Obj)}{σ:St}{H:Hp}{s:Shared}{d:Addr}{od:Obj}{aw:List (List Key×V)}(I:Inv X pins σ H s)(h:H d=some (.frz od (.dT aw))):
 ∃es ep,(d==sysModules)=false∧s.heap.get? d=some od∧od.ExactDict∧od.data= .dict es ep∧es.size=aw.length∧∀(i:Nat) (k:List Key) (v:V),aw[i]? =some (k,v)→∃(e:DictEntry) (b:Addr),es[i]? =some e∧e.key= .ref b∧H b=some (.tup (k.map kV))∧RelV v e.val:=by
 obtain⟨ho,z,lo,xs,rel,o,es,ep,h1,h2,h3,h4,h5⟩:=(show ObjOk X.prog X.w H s.heap d (.frz od (.dT aw)) from I.hok d _ h)
 rw[ho] at h1
 cases h1
 have hl:es.size=aw.length:=by
  rw[←Array.length_toList,h4,List.length_map]
  exact(Paired.length rel).symm
 refine⟨es,ep,lo,ho,h2,h3,hl,fun i k v hi=>?_⟩
 obtain⟨q,e1,e2,e3,e4⟩:=gx rel hi
 refine⟨entryOfKey (tupleKind (aU X.prog X.w)) q,q.2.1,?_,rfl,e3,e4⟩
 rw[←Array.getElem?_toList,h4,List.getElem?_map,e1]
 rfl
theorem wJ{P:Program}{w:World}{K:W.Frag}{ts:List Expr}{x1}{tp:Pos}(d it:Addr)(od:Obj)(es:Array DictEntry)(ep:Nat)(gR:od.data= .dict es ep):
 Turn P w K (.Tuple ts x1 tp) (L_ d od) [it] it (fun i h=>∃ok ov,IsItemIter h it d i es.size ep ok ov) where
 mem:=by simp
 obj:=fun i h ⟨ok,ov,st⟩ b hb=>by
  have e:b=it:=by simpa using hb
  subst e
  exact⟨_,st,fun v z=>nomatch z⟩
 keep:=fun i h h' ⟨ok,ov,st⟩ k=>⟨ok,ov,k it (by simp) _ st⟩
 item:=by
  intro X hP hw hK hc i pins s σ H E I hf st hg
  subst hP hw hK
  obtain⟨ok,ov,st⟩:=st
  obtain⟨aw,e,hi⟩:=hg
  obtain⟨EA,z6,lo,ho,hx,mB,hsz,hk⟩:=kB I e
  rw[gR] at mB
  cases mB
  obtain⟨en,b,e1,e2,e3,e4⟩:=hk i aw[i].1 aw[i].2 (List.getElem?_eq_getElem hi)
  refine next_item st ho gR e1 fun h1 k1 k2 k3 k4=>?_
  refine⟨_,rfl,wpAny_letOwnedTupleGo_items k1 fun h2 m1 m2=>?_⟩
  have g0:s.heap.objs.size≠it:=Nat.ne_of_gt (Heap.lt_size st)
  have B8:h2.get? s.heap.objs.size=some {cls:= .type "tuple",data:= .seq #[en.key,en.val]}:=(m2.2 _ g0).trans k2
  have keep:∀b q,b∉[it]→s.heap.get? b=some q→h2.get? b=some q:=fun b q hb e1=>by
   have HV:b≠it:=fun z=>hb (by simp[z])
   exact(m2.2 b HV).trans (k4 b q HV e1)
  have I2:Inv X pins σ (upd H s.heap.objs.size (.tup [.ref b,aw[i].2])) {s with heap:=h2,toks:=s.toks}:=by
   refine Inv.turnedLaid (s:=s) I keep hf (Nat.le_refl _) ⟨?_,[en.key,en.val], .cons (by rw[e2];rfl) (.cons e4 .nil),_,B8,rfl,_,rfl⟩
   rw[sizeLine_eq];show 2≤_;decide
  refine⟨.ref s.heap.objs.size,_,I2,rfl,⟨_,aw,aw[i].1,aw[i].2,b,rfl,I.hok.fresh (Nat.le_refl _),e,List.getElem?_eq_getElem hi,e3,rfl⟩,⟨_,_,m1⟩,fun c hc=>?_⟩
  rw[ax (fun z=>by
   have hc:c=it:=by simpa using hc
   exact g0 (z▸hc).symm.symm)]
  exact(hf c hc).1
 done:=by
  intro X hP hw hK hc i pins s σ H E I hf st hg
  subst hP hw hK
  obtain⟨ok,ov,st⟩:=st
  obtain⟨aw,e,hi⟩:=hg
  obtain⟨EA,z6,lo,ho,hx,mB,hsz,hk⟩:=kB I e
  rw[gR] at mB
  cases mB
  obtain⟨f0,f1,f2,f3,f4,f5⟩:=hf it (by simp)
  exact yw (I.ok.hd hc) st (by omega) ho gR fun h' eb=>⟨rfl,I.turned (t':=s.toks) (fun b o hb e=>eb b o hb e) f0 f1 f3 f4 f5⟩
 self:=fun _ _ _ _ _ ⟨_,_,st⟩ h=>wA st h
def kH:D→M (List D)
 | .dct ks ds=>if ks.all (fun k=>decide (k.length≤lim)&&k.all lV) then M.ret ((ks.zip ds).map fun q=> .tup [tupK q.1,q.2]) else M.stuck
 |_=>M.stuck
theorem zip_get{α β:Type}{a:List α}{b:List β}{i:Nat}{x:α}{y:β}(h:(a.zip b)[i]? =some (x,y)):a[i]? =some x∧b[i]? =some y:=List.getElem?_zip_eq_some.mp h
theorem yG{K:W.Frag}{F:Hp}{a:Addr}{ob:Obj}{ks:List (List Key)}{ds:List D}{vs:List V}(hF:F a=some (.frz ob (.dT (ks.zip vs))))(hd:DenL K F ds vs)(hl:ks.length=ds.length)(hok:ks.all (fun k=>decide (k.length≤lim)&&k.all lV)=true):ItD K F (L_ a ob) ((ks.zip ds).map fun q=> .tup [tupK q.1,q.2]):=fun F' H' i s1 s2=>by
 have hh:=s2 _ _ (s1 _ _ hF)
 have O8:=hd.len
 have l1:(ks.zip ds).length=ks.length:=by rw[List.length_zip];omega
 have l2:(ks.zip vs).length=ks.length:=by rw[List.length_zip];omega
 refine⟨fun d e=>?_,fun hle=>⟨_,hh,by rw[List.length_map,l1] at hle;omega⟩⟩
 rw[List.getElem?_map] at e
 cases q:(ks.zip ds)[i]? with
 |none=>rw[q] at e;cases e
 |some kd=>
  rw[q] at e
  cases e
  obtain⟨q1,q2⟩:=zip_get (x:=kd.1) (y:=kd.2) q
  have hi:=(List.getElem?_eq_some_iff.mp q1).1
  refine⟨⟨_,hh,by rw[l2];exact hi⟩,fun x H'' ⟨p,aw,k,v,b,y1,y2,y3,y4,y5,y6⟩=>?_⟩
  subst y1 y6
  rw[hh] at y3
  cases y3
  obtain⟨z1,z2⟩:=zip_get y4
  rw[q1] at z1
  cases z1
  obtain⟨v',e1,dv⟩:=hd.get q2
  rw[z2] at e1
  cases e1
  have hk:=List.all_eq_true.mp hok kd.1 (List.mem_of_getElem? q1)
  rw[Bool.and_eq_true] at hk
  have E1:=Ext.tup (F:=F') s2 y5
  have E2:=Ext.lay (o:= .tup [.ref b,v]) E1.fh y2
  refine⟨_,E1.trans E2,p,_,rfl,aD, .cons ⟨b,_,rfl,?_,kI hk.2,by rw[List.length_map];exact of_decide_eq_true hk.1⟩ (.cons (Den.mono (E1.trans E2).ff (Den.mono s1 dv)) .nil),by show 2≤lim;decide⟩
  exact E2.ff _ _ aD
section
variable{X:Cx}{Xw:Nat→Hp→Prop}{o:Expr}{ts:List Expr}{δ:DE}{tp apos aQ:Pos}{x1:Nat}
theorem zc(h:PD X Xw o δ)(f7:attributeBase o "items" X.env (eval o X.env)=eval o X.env:=by rfl)(f9:(apos.endLine==aQ.line)=true:=by rfl):ve X Xw (.Tuple ts x1 tp) (.Call (.Attribute o "items" apos) [] [] aQ) (fun ρ=>δ ρ>>=kH):=by
 intro pins s σ H R I ⟨F,ρ,S,w⟩
 refine wpAny_Call_method0_late f7 f9 (bK (h pins s σ H (fun v H1=>∃F1 d,Ext F H F1 H1∧Den X.K F1 d v∧WPI X.K Xw F1 H1 (kH d) R) I ⟨F,ρ,S,WPI.bind w⟩) fun u s1 ⟨v,H1,I1,r1,F1,d,e1,q1,w1⟩=>?_)
 unfold kH at w1
 split at w1
 ·rename_i ks ds
  split at w1
  ·rename_i hok
   obtain⟨a,ob,vs,rfl,h2,h3,h4,h5⟩:=q1
   cases (show u=_ from r1)
   obtain⟨es,ep,lo,ho,hx,hd,hsz,hk⟩:=kB I1 (e1.fh _ _ h2)
   refine⟨"dict","dict.items",PySem.F.plainAttrs_dict,PySem.F.slot_dict_items,PySem.F.type_dict_items,⟨ob,ho,hx.1⟩,?_,?_⟩
   ·rintro _ ⟨⟩
    exact⟨ob,ho,hx.2.1⟩
   ·refine Calls.callWith_builtin rfl (PySem.evalArgs_none ?_)
    refine wM lo ho hx hd ?_
    refine vP ⟨_,Heap.get?_push_size _ rfl,rfl,rfl⟩ (Heap.get?_push_of_some _ ho) hd ?_
    refine⟨_,[_],_,_,H1,rfl,I1.kept (t':=s1.toks) fun b o e=>Heap.get?_push_of_some _ (Heap.get?_push_of_some _ e),wJ a _ ob es ep hd,⟨_,_,Heap.get?_push_size _ rfl⟩,fun b hb=>?_,w1 _ _ _ (Ext.refl e1.fh) (yG h2 h3 h4 hok)⟩
    have e:b=(s1.heap.push {cls:= .type "dict_items",data:= .fields #[.ref a]}).objs.size:=by simpa using hb
    subst e
    exact I1.fpOk (by rw[Heap.size_push];exact Nat.le_succ _) (I1.hok.fresh (by rw[Heap.size_push];exact Nat.le_succ _))
  ·exact w1.elim
 ·exact w1.elim
end
def Ma(K:W.Frag)(a b:Addr):It:=
 ⟨fun i H=>∃xs ys x y,SqL K H a xs∧SqL K H b ys∧xs[i]? =some x∧ys[i]? =some y,fun i H x H'=>∃p,x= .ref p∧H p=none∧∃v u,(∀xs,SqL K H a xs→xs[i]? =some v)∧(∀ys,SqL K H b ys→ys[i]? =some u)∧H'=upd H p (.tup [v,u]),
  fun i H=>∃xs ys,SqL K H a xs∧SqL K H b ys∧(xs.length≤i∨ys.length≤i)⟩
structure Zp (h:Heap) (z TI TO i1 i2 l1 l2:Addr) (i:Nat):Prop where
 z:IsZip h z TI TO .none
 ti:IsPair h TI (.ref i1) (.ref i2)
 to:∃a b,IsPair h TO a b
 a:h.IsListIter i1 l1 i
 b:h.IsListIter i2 l2 i
theorem B_{P:Program}{w:World}{K:W.Frag}{ts:List Expr}{x1}{tp:Pos}(l1 l2 z TI TO i1 i2:Addr)(D:ZipApart z TI TO i1 i2 l1 l2):
 Turn P w K (.Tuple ts x1 tp) (Ma K l1 l2) [z,TI,TO,i1,i2] z (fun i h=>Zp h z TI TO i1 i2 l1 l2 i) where
 mem:=by simp
 obj:=fun i h st c hc=>by
  simp only[List.mem_cons,List.not_mem_nil,or_false] at hc
  rcases hc with rfl | rfl | rfl | rfl | rfl
  ·exact⟨_,st.z,fun v q=>nomatch q⟩
  ·exact⟨_,st.ti,fun v q=>nomatch q⟩
  ·obtain⟨a,b,q⟩:=st.to;exact⟨_,q,fun v q=>nomatch q⟩
  ·obtain⟨o,e,c,d⟩:=st.a;exact⟨o,e,fun v q=>by rw[d] at q;cases q⟩
  ·obtain⟨o,e,c,d⟩:=st.b;exact⟨o,e,fun v q=>by rw[d] at q;cases q⟩
 keep:=fun i h h' st k=>⟨k z (by simp) _ st.z,k TI (by simp) _ st.ti,let ⟨a,b,q⟩:=st.to;⟨a,b,k TO (by simp) _ q⟩,st.a.at fun o q=>k i1 (by simp) o q,st.b.at fun o q=>k i2 (by simp) o q⟩
 item:=by
  intro X hP hw hK hc i pins s σ H E I hf st hg
  subst hP hw hK
  obtain⟨xs,ys,x,y,J9,J_,hx,hy⟩:=hg
  obtain⟨aB,rv,p,hz⟩:=I.list J9
  obtain⟨e8,Kl,p2,MS⟩:=I.list J_
  obtain⟨u,hu,ru⟩:=rv.get hx
  obtain⟨u2,Oq,OM⟩:=Kl.get hy
  obtain⟨a0,b0,JZ⟩:=st.to
  refine wpAny_pyNext_zip_item D st.z st.ti JZ st.a st.b p.isList p2.isList (x:=u) (y:=u2) (by simpa using hu) (by simpa using Oq) fun h1 k1 k2 k3 k4 k5 k6 k7=>?_
  refine⟨_,rfl,wpAny_letOwnedTupleGo_zip k1 fun h2 m1 m2=>?_⟩
  replace m2:Heap.SameBut z h1 h2:=m2
  have g0:s.heap.objs.size≠z:=Nat.ne_of_gt (Heap.lt_size st.z)
  have B8:h2.get? s.heap.objs.size=some {cls:= .type "tuple",data:= .seq #[u,u2]}:=(m2.2 _ g0).trans k5
  have keep:∀b q,b∉[z,TI,TO,i1,i2]→s.heap.get? b=some q→h2.get? b=some q:=fun b q hb e1=>by
   simp only[List.mem_cons,List.not_mem_nil,or_false,not_or] at hb
   exact(m2.2 b hb.1).trans (k7 b q hb.1 hb.2.2.1 hb.2.2.2.1 hb.2.2.2.2 e1)
  have I2:Inv X pins σ (upd H s.heap.objs.size (.tup [x,y])) {s with heap:=h2,toks:=s.toks}:=by
   refine Inv.turnedLaid (s:=s) I keep hf (Nat.le_refl _) ⟨?_,[u,u2], .cons ru (.cons OM .nil),_,B8,rfl,_,rfl⟩
   rw[sizeLine_eq];show 2≤_;decide
  have up:∀c o,c≠z→h1.get? c=some o→h2.get? c=some o:=fun c o q e=>(m2.2 c q).trans e
  refine⟨.ref s.heap.objs.size,_,I2,rfl,⟨_,rfl,I.hok.fresh (Nat.le_refl _),x,y,fun Pd IC=>by rw[I.list_inj IC J9];exact hx,fun Pe Ox=>by rw[I.list_inj Ox J_];exact hy,rfl⟩,⟨m1,up _ _ D.TIz (k7 _ _ D.TIz D.TITO D.TIi1 D.TIi2 st.ti),⟨_,_,up _ _ D.TOz k2⟩,k3.at fun o q=>up _ o D.i1z q,k4.at fun o q=>up _ o D.i2z q⟩,fun b hb=>?_⟩
  rw[ax (fun q=>?_)]
  ·exact(hf b hb).1
  ·obtain⟨o,e1,_⟩:∃o,s.heap.get? b=some o∧True:=by
    simp only[List.mem_cons,List.not_mem_nil,or_false] at hb
    rcases hb with rfl | rfl | rfl | rfl | rfl
    ·exact⟨_,st.z,trivial⟩
    ·exact⟨_,st.ti,trivial⟩
    ·exact⟨_,JZ,trivial⟩
    ·obtain⟨o,e,_⟩:=st.a;exact⟨o,e,trivial⟩
    ·obtain⟨o,e,_⟩:=st.b;exact⟨o,e,trivial⟩
   exact absurd (Heap.lt_size e1) (by rw[q];exact Nat.lt_irrefl _)
 done:=by
  intro X hP hw hK hc i pins s σ H E I hf st hg
  subst hP hw hK
  obtain⟨xs,ys,J9,J_,hi⟩:=hg
  obtain⟨aB,rv,p,hz⟩:=I.list J9
  obtain⟨e8,Kl,p2,MS⟩:=I.list J_
  obtain⟨a0,b0,JZ⟩:=st.to
  have hl:=rv.length
  have FD:=Kl.length
  refine wpAny_pyNext_zip_end (I.ok.hd hc) D st.z st.ti JZ st.a st.b p.isList p2.isList ?_ fun h' eb=>⟨rfl,Inv.turnedL (t':=s.toks) (ch:=[z,TI,TO,i1,i2]) I (fun b q hb e1=>?_) hf⟩
  ·rcases hi with hi | hi
   ·exact .inl (by simp;omega)
   ·exact .inr (by simp;omega)
  ·simp only[List.mem_cons,List.not_mem_nil,or_false,not_or] at hb
   exact eb b q hb.1 hb.2.2.1 hb.2.2.2.1 hb.2.2.2.2 e1
 self:=fun A i s Q E st h=>wpAny_pyIter_zip st.z h
def Cd:List D→M (List D)
 |[.lst xs, .lst ys]=>M.ret ((xs.zip ys).map fun q=> .tup [q.1,q.2])
 |_=>M.stuck
theorem C2{K:W.Frag}{F:Hp}{a b:Addr}{vs us:List V}{ds es:List D}(h:SqL K F a vs)(hd:DenL K F ds vs)(h':SqL K F b us)(mB:DenL K F es us):ItD K F (Ma K a b) ((ds.zip es).map fun q=> .tup [q.1,q.2]):=fun F' H' i s1 s2=>by
 have hs:=Same.seq s2 (Same.seq s1 h)
 have vL:=Same.seq s2 (Same.seq s1 h')
 refine⟨fun d e=>?_,fun hl=>⟨vs,us,hs,vL,?_⟩⟩
 ·rw[List.getElem?_map] at e
  cases q:(ds.zip es)[i]? with
  |none=>rw[q] at e;cases e
  |some kd=>
   rw[q] at e
   cases e
   obtain⟨q1,q2⟩:=zip_get (x:=kd.1) (y:=kd.2) q
   obtain⟨v,e1,d1⟩:=hd.get q1
   obtain⟨u,e2,d2⟩:=mB.get q2
   refine⟨⟨vs,us,v,u,hs,vL,e1,e2⟩,fun x H'' ⟨p,y1,y2,v',u',y3,y4,y5⟩=>?_⟩
   subst y1 y5
   have z1:=y3 vs hs
   have z2:=y4 us vL
   rw[e1] at z1
   rw[e2] at z2
   cases z1
   cases z2
   have E:=Ext.lay (o:= .tup [v,u]) s2 y2
   exact⟨_,E,p,_,rfl,aD, .cons (Den.mono E.ff (Den.mono s1 d1)) (.cons (Den.mono E.ff (Den.mono s1 d2)) .nil),by show 2≤lim;decide⟩
 ·rw[List.length_map,List.length_zip] at hl
  have l1:=hd.len
  have l2:=mB.len
  omega
section
variable{X:Cx}{Xw:Nat→Hp→Prop}{e e2:Expr}{es:List Expr}{δs:DA}{pos p tp:Pos}{x1:Nat}
theorem DH(hg:Gl X "zip")(hm:X.mg "zip"=none)(ha:lu X Xw [e,e2] δs)(hs:starEach [e,e2] X.env=(false,eval e X.env)::starEach [e2] X.env:=by rfl)(o7:(backTo pos (starEach [e2] X.env)).any (·.1)=false:=by rfl):ve X Xw (.Tuple es x1 tp) (.Call (.Name "zip" p) [e,e2] [] pos) (fun ρ=>δs ρ>>=Cd):=by
 intro pins s σ H R I ⟨F,ρ,S,w⟩
 refine Call_ (jt I hg hm (show bootBuiltins "zip"=some (.type "zip") from rfl) (PyProof.Rows.callWith_type1 (bK (ha pos pins s σ H (fun vs H1=>∃F1 ds,Ext F H F1 H1∧DenL X.K F1 ds vs∧WPI X.K Xw F1 H1 (Cd ds) R) I ⟨F,ρ,S,WPI.bindL w⟩) fun us s1 ⟨vs,H1,I1,r1,F1,ds,e1,q1,w1⟩=>?_) hs o7))
 unfold Cd at w1
 split at w1
 ·rename_i ds es
  obtain⟨v,v',rfl,q1,q2⟩:=q1.two
  obtain⟨a,xs,rfl,h2,h3,h4⟩:=q1
  obtain⟨b,ys,rfl,g2,g3,g4⟩:=q2
  obtain⟨u,u',rfl,rx,ry⟩:=vals2 r1
  cases (show u=_ from rx)
  cases (show u'=_ from ry)
  obtain⟨aB,rv,pl,hz⟩:=I1.list (SqL.of (K:=X.K) (e1.fh _ _ h2))
  obtain⟨e8,Kl,M7,MS⟩:=I1.list (SqL.of (K:=X.K) (e1.fh _ _ g2))
  have la:a<s1.heap.objs.size:=by obtain⟨o,e,_⟩:=pl.isList;exact Heap.lt_size e
  have lb:b<s1.heap.objs.size:=by obtain⟨o,e,_⟩:=M7.isList;exact Heap.lt_size e
  refine call_zip_2 pl.isList M7.isList fun h' k1 k2 k3 k4 k5 k6 k7=>?_
  refine wpAny_pyIter_zip k1 ?_
  refine⟨s1.heap.objs.size+4,[s1.heap.objs.size+4,s1.heap.objs.size+2,s1.heap.objs.size+3,s1.heap.objs.size,s1.heap.objs.size+1],_,_,H1,rfl,I1.kept (t':=s1.toks) fun b o e=>k7 b o e,B_ a b _ _ _ _ _ ?_,⟨k1,k2,⟨_,_,k3⟩,k4,k5⟩,fun c hc=>?_,w1 _ _ _ (Ext.refl e1.fh) (C2 (SqL.of h2) h3 (SqL.of g2) g3)⟩
  ·constructor<;>(unfold Addr at*;omega)
  ·have e:s1.heap.objs.size≤c:=by
    simp only[List.mem_cons,List.not_mem_nil,or_false] at hc
    unfold Addr at*
    omega
   exact I1.fpOk e (I1.hok.fresh e)
 ·exact w1.elim
end
section
variable{X:Cx}{Xw:Nat→Hp→Prop}{a b:Expr}{δa δb:DE}{pos:Pos}
theorem GG(ha:PD X Xw a δa)(hb:PD X Xw b δb)(hm:behindInMarks .In b=false:=by rfl):ku X Xw (.Compare a [.In] [b] pos) (b9 (d2 (tQ false) δa δb)):=dP yZ Aw ha hb hm
end
end L3
namespace L3
def Km(n:Nat)(δs:DA):DS:=fun _=>M.stuck
end L3
namespace K1
open PySem PySem.Spec L2 L3
open PyProof.Rows hiding St
def wU:DS:=(a_ (dX (dA gQ (aC (dV 0) (aC (dC (.raw (.ty "int"))) aN))) (Ew (dA gQ (aC (dV 0) (aC (dC (.raw (.ty "bool"))) aN))))))
def a5:List D→M D:=bT 1 (wU)
def u5:DS:=(a_ (dX (dA gQ (aC (dV 0) (aC (dC (.raw (.ty "str"))) aN))) (dX (d2 mz (dA a6 (aC (dV 0) aN)) (dC (.int 1))) (d2 (Ad false) (dV 0) (dC (.str "abcdef"))))))
def cN:List D→M D:=bT 1 (u5)
def oY:DS:=(a_ (bE 0 (fun ρ=>(aC (dA a6 (aC (d2 bg (dV 0) (dC (.int 0))) aN)) aN) ρ>>=jg) cM (dA dG (aC (dV 2) (aC (dV 0) aN)))))
def ba:List D→M D:=bT 2 (oY)
def u_:DS:=(a_ (d2 rh (d2 bg (dV 0) (d2 bg (dV 1) (dC (.int 0)))) (d2 bg (dV 1) (dC (.int 1)))))
def aL:List D→M D:=bT 2 (u_)
def wQ:DS:=(aA (bz 3 (dA zG (aC (d2 nj (d2 bg (dV 0) (dC (.int 0))) (d2 bg (dV 1) (dC (.int 0)))) aN))) (aA (bz 4 (dA zG (aC (d2 nj (d2 bg (dV 0) (dC (.int 1))) (d2 bg (dV 1) (dC (.int 1)))) aN))) (aA (fK (b9 (d2 mz (dV 2) (dC (.int 4)))) (a_ (d2 mz (d2 cO (dV 3) (dV 4)) (dC (.int 1)))) cw) (a_ (d2 mz (dA vT (aC (dV 3) (aC (dV 4) aN))) (dC (.int 1)))))))
def dg:List D→M D:=bT 5 (wQ)
def Eo:DS:=(aA (uK 1) (aA (fun ρ=>noex ((d_ (putN 2) (FN (d4 (dV 0)) (fun ρ=>(dV 0) ρ>>=lF)) (cG [2] (gP 1 (dV 2) (dC (.bl true))))) ρ)) (xU 1 (a_ (dV 1)))))
def fq:List D→M D:=bT 3 (Eo)
def o3:DS:=(aA (fK (b9 (d2 mz (dV 0) (dA fC aN))) (a_ (d2 gZ (dC (.int 7)) (dV 1))) cw) (a_ (d2 cO (d2 Ae (dV 0) (d2 jP (dV 1) (dA a6 (aC (dV 0) aN)))) (d2 gZ (dC (.int 6553)) (d2 pb (dV 1) (dA a6 (aC (dV 0) aN)))))))
def eY:List D→M D:=bT 2 (o3)
def u6:DS:=(aA (fK (kr (cJ (cx (dA gQ (aC (dV 0) (aC (dC (.raw (.ty "str"))) aN))))) (cJ (b9 (vf (fun i j=>decide (i≤j)) (fun i j=>decide (i≤j)) (dC (.int 1)) (dA a6 (aC (dV 0) aN)) (dC (.int 8)))))) (a_ (dC (.bl false))) cw) (a_ (dA allM (aC (bE 0 (fun ρ=>(dV 0) ρ>>=GV) cM (aj 1 cN (aC (dV 0) aN))) aN))))
def eX:List D→M D:=bT 1 (u6)
def qM:DS:=(aA (fK (kr (cJ (cx (dA gQ (aC (dV 1) (aC (dC (.raw (.ty "tuple"))) aN))))) (b9 (d2 pU (dA a6 (aC (dV 1) aN)) (dC (.int 2))))) (a_ (dC (.bl false))) cw) (aA (fK (kr (cJ (cx (aj 1 a5 (aC (d2 bg (dV 1) (dC (.int 0))) aN)))) (cJ (cx (aj 1 a5 (aC (d2 bg (dV 1) (dC (.int 1))) aN))))) (a_ (dC (.bl false))) cw) (a_ (dX (vf (fun i j=>decide (i≤j)) (fun i j=>decide (i<j)) (dC (.int 0)) (d2 bg (dV 1) (dC (.int 0))) (dA a6 (aC (dV 0) aN))) (vf (fun i j=>decide (i≤j)) (fun i j=>decide (i<j)) (dC (.int 0)) (d2 bg (dV 1) (dC (.int 1))) (dA a6 (aC (d2 bg (dV 0) (dC (.int 0))) aN)))))))
def iO:List D→M D:=bT 2 (qM)
def vc:DS:=(fK (kr (cJ (cx (aj 1 a5 (aC (dV 0) aN)))) (b9 (d2 (tQ true) (dV 0) (dA dG (aC (dC (.int 4)) (aC (dC (.int 8)) aN)))))) (Km 1 (aC (dC (.str "ways are 4 or 8")) aN)) cw)
def cb:List D→M D:=bT 1 (vc)
def u3:DS:=(aA (su 1) (aA (fun ρ=>noex ((d_ (putN 2) (fun ρ=>(aC (dA a6 (aC (dV 0) aN)) aN) ρ>>=jg) (cG [2] (BO 1 (aj 2 ba (aC (dV 0) (aC (dV 2) aN)))))) ρ)) (xU 1 (a_ (dV 1)))))
def bF:List D→M D:=bT 3 (u3)
def sV:DS:=(aA (su 3) (aA (fun ρ=>noex ((d_ (putN 4) (fun ρ=>(aC (dA vT (aC (d2 nj (d2 bg (dV 1) (dC (.int 0))) (dC (.int 1))) (aC (dC (.int 0)) aN))) (aC (dA yR (aC (d2 cO (d2 bg (dV 1) (dC (.int 0))) (dC (.int 2))) (aC (dA a6 (aC (dV 0) aN)) aN))) aN)) ρ>>=oD) (cG [4,5] (d_ (putN 5) (fun ρ=>(aC (dA vT (aC (d2 nj (d2 bg (dV 1) (dC (.int 1))) (dC (.int 1))) (aC (dC (.int 0)) aN))) (aC (dA yR (aC (d2 cO (d2 bg (dV 1) (dC (.int 1))) (dC (.int 2))) (aC (dA a6 (aC (d2 bg (dV 0) (dC (.int 0))) aN)) aN))) aN)) ρ>>=oD) (cG [5] (fK (cx (aj 3 dg (aC (dV 1) (aC (dA dG (aC (dV 4) (aC (dV 5) aN))) (aC (dV 2) aN))))) (i8 3 (dA dG (aC (dV 4) (aC (dV 5) aN)))) cw))))) ρ)) (xU 3 (a_ (dV 3)))))
def bb:List D→M D:=bT 6 (sV)
def mh:DS:=(aA (bz 3 (d2 jP (d2 cO (d2 gZ (d2 jP (aj 2 eY (aC (dV 0) (aC (dV 1) aN))) (dC (.int 2147483563))) (dC (.int 69069))) (d2 gZ (dC (.int 104723)) (d2 cO (dV 1) (dC (.int 1))))) (dC (.int 2147483563)))) (aA (bz 3 (d2 jP (d2 cO (d2 gZ (dV 3) (dV 3)) (d2 pb (dV 3) (dC (.int 3)))) (dC (.int 2147483399)))) (a_ (d2 jP (d2 pb (d2 jP (d2 cO (d2 gZ (dV 3) (dV 3)) (d2 pb (dV 3) (dC (.int 7)))) (dC (.int 2147483647))) (dC (.int 11))) (dV 2)))))
def aF:List D→M D:=bT 4 (mh)
def oZ:DS:=(aA (fK (kr (cJ (cx (dA gQ (aC (dV 0) (aC (dC (.raw (.ty "tuple"))) aN))))) (cJ (b9 (vf (fun i j=>decide (i≤j)) (fun i j=>decide (i≤j)) (dC (.int 1)) (dA a6 (aC (dV 0) aN)) (dC (.int 8)))))) (a_ (dC (.bl false))) cw) (aA (fK (cJ (cx (dA allM (aC (bE 0 (vB (dV 0)) cM (aj 1 eX (aC (dV 0) aN))) aN)))) (a_ (dC (.bl false))) cw) (a_ (dA allM (aC (bE 0 (vB (dV 0)) cM (d2 mz (dA a6 (aC (dV 0) aN)) (dA a6 (aC (d2 bg (dV 1) (dC (.int 0))) aN)))) aN)))))
def gn:List D→M D:=bT 1 (oZ)
def va:DS:=(fK (cJ (cx (aj 2 iO (aC (dV 0) (aC (dV 1) aN))))) (Km 2 (aC (dC (.str "a tuple (row, column) on the board is asked for")) aN)) cw)
def ft:List D→M D:=bT 2 (va)
def sS:DS:=(aA (bz 3 (aj 2 aL (aC (dV 0) (aC (dV 1) aN)))) (a_ (bE 0 (d4 (aj 3 bb (aC (dV 0) (aC (dV 1) (aC (dV 2) aN))))) (b9 (d2 mz (aj 2 aL (aC (dV 1) (aC (dV 0) aN))) (dV 4))) (dV 0))))
def cg:List D→M D:=bT 4 (sS)
def u7:DS:=(aA (bz 3 (d2 cO (dC (.int 1)) (aj 3 aF (aC (dV 0) (aC (dV 1) (aC (dV 2) aN)))))) (aA (bz 4 (d2 cO (dC (.int 1)) (aj 3 aF (aC (dV 0) (aC (d2 cO (dV 1) (dC (.int 1))) (aC (dV 2) aN)))))) (aA (bz 5 (d2 di (dA fC (aC (dC (.str "ab")) (aC (dC (.str "abc")) (aC (dC (.str "aab")) (aC (dC (.str "fa")) aN))))) (aj 3 aF (aC (dV 0) (aC (d2 cO (dV 1) (dC (.int 2))) (aC (dC (.int 4)) aN)))))) (aA (bz 6 (dA dG aN)) (aA (fun ρ=>noex ((d_ (putN 7) (fun ρ=>(aC (dV 3) aN) ρ>>=jg) (cG [7,8] (aA (bz 8 (bE 0 (fun ρ=>(aC (dV 4) aN) ρ>>=jg) cM (d2 rh (dV 6) (aj 3 aF (aC (dV 1) (aC (d2 cO (d2 cO (d2 cO (dV 2) (dC (.int 3))) (d2 gZ (dC (.int 7)) (dV 8))) (dV 0)) (aC (dA a6 (aC (dV 6) aN)) aN))))))) (bz 6 (d2 tP (dV 6) (dA dG (aC (dM AB joinM (dC (.str "")) (aC (dV 8) aN)) aN))))))) ρ)) (a_ (dV 6)))))))
def er:List D→M D:=bT 9 (u7)
def sU:DS:=(fK (cJ (cx (aj 1 gn (aC (dV 0) aN)))) (Km 0 (aC (dC (.str "a tuple of 1 to 8 texts of 1 to 8 letters, all as long, is asked for")) aN)) cw)
def aY:List D→M D:=bT 1 (sU)
def sX:DS:=(aA (BQ 3 (fun ρ=>(dV 1) ρ>>=fun x=>(dC .non) ρ>>=fun y=>pQ x y)) (aA (bz 4 (dA fC (aC (dV 1) aN))) (aA (fun ρ=>noex ((wx (cx (dV 4)) (cG [5,6,7] (aA (su 5) (aA (d_ (putN 6) (d4 (dV 4)) (cG [6,7] (d_ (putN 7) (d4 (aj 3 cg (aC (dV 0) (aC (dV 6) (aC (dV 2) aN))))) (cG [7] (fK (E8 (b9 (d2 (gY true) (dV 7) (dV 3)))) (aA (gP 3 (dV 7) (dV 6)) (i8 5 (dV 7))) cw))))) (xU 5 (bz 4 (dV 5))))))) ρ)) (xU 3 (a_ (dV 3))))))
def cj:List D→M D:=bT 8 (sX)
def En:DS:=(aA (i9 (aj 1 aY (aC (dV 0) aN))) (a_ (aj 1 bF (aC (dV 0) aN))))
def iN:List D→M D:=bT 1 (En)
def sW:DS:=(aA (uK 1) (aA (fun ρ=>noex ((d_ (oz [2,3]) (fun ρ=>(aC (dV 0) aN) ρ>>=xh) (cG [2,3,4] (d_ (putN 4) (d4 (dV 3)) (cG [4] (gP 1 (dV 4) (dV 2)))))) ρ)) (xU 1 (a_ (dV 1)))))
def eG:List D→M D:=bT 5 (sW)
def o6:DS:=(aA (bz 3 (aj 1 fq (aC (dV 1) aN))) (aA (su 4) (aA (fun ρ=>noex ((d_ (putN 5) (fun ρ=>(aC (dA a6 (aC (dV 0) aN)) aN) ρ>>=jg) (cG [5,6] (aA (bz 6 (aj 2 ba (aC (dV 0) (aC (dV 5) aN)))) (i8 4 (dM AB joinM (dC (.str "")) (aC (bE 0 (d4 (dV 6)) cM (Eu (b9 (d2 (gY false) (dV 0) (dV 4))) (dV 3) (aj 2 aL (aC (dV 1) (aC (dV 0) aN))))) aN)))))) ρ)) (xU 4 (a_ (dA B9 (aC (dV 4) aN)))))))
def b6:List D→M D:=bT 7 (o6)
def o5:DS:=(aA (bz 2 (aj 1 eG (aC (dV 1) aN))) (aA (uK 3) (aA (fun ρ=>noex ((d_ (putN 4) (d4 (aj 1 bF (aC (dV 0) aN))) (cG [4,5,6] (d_ (putN 5) (d4 (aj 3 bb (aC (dV 0) (aC (dV 4) (aC (dC (.int 4)) aN))))) (cG [5,6] (fK (b9 (d2 Fv (d2 jr (dV 2) (dV 4)) (d2 jr (dV 2) (dV 5)))) (aA (bz 6 (dA dG (aC (d2 jr (dV 2) (dV 4)) (aC (d2 jr (dV 2) (dV 5)) aN)))) (gP 3 (dV 6) (HA (d2 cO (tE (dV 3) (dV 6) (dC (.int 0))) (dC (.int 1)))))) cw))))) ρ)) (xU 3 (a_ (dV 3))))))
def bZ:List D→M D:=bT 7 (o5)
def sT:DS:=(aA (su 3) (aA (fun ρ=>noex ((d_ (oz [4,5]) (fun ρ=>(aj 2 bZ (aC (dV 0) (aC (dV 1) aN))) ρ>>=kH) (cG [4,5,6] (fK (b9 (d2 (tQ false) (dV 2) (dV 4))) (aA (bz 6 (d2 nj (d2 cO (d2 bg (dV 4) (dC (.int 0))) (d2 bg (dV 4) (dC (.int 1)))) (dV 2))) (i8 3 (dA dG (aC (d1 mD (dV 5)) (aC (d1 mD (dA a6 (aC (d2 di (dV 1) (dV 6)) aN))) (aC (dV 6) aN)))))) cw))) ρ)) (xU 3 (a_ (d2 bg (dA rC (aC (dV 3) aN)) (dC (.int 2)))))))
def dE:List D→M D:=bT 7 (sT)
def u9:DS:=(aA (i9 (aj 1 aY (aC (dV 0) aN))) (aA (i9 (aj 2 ft (aC (dV 0) (aC (dV 1) aN)))) (a_ (aj 2 aL (aC (dV 0) (aC (dV 1) aN))))))
def bG:List D→M D:=bT 2 (u9)
def pF:DS:=(aA (su 2) (aA (uK 3) (aA (fun ρ=>noex ((d_ (putN 4) (d4 (aj 1 bF (aC (dV 0) aN))) (cG [4,5] (fK (E8 (b9 (d2 (gY true) (dV 4) (dV 3)))) (aA (bz 5 (dA qH (aC (aj 3 cj (aC (dV 0) (aC (dV 4) (aC (dV 1) aN)))) aN))) (aA (i8 2 (dV 5)) (zj 3 (aj 1 fq (aC (dV 5) aN))))) cw))) ρ)) (xU 2 (a_ (dV 2))))))
def bo:List D→M D:=bT 6 (pF)
def o4:DS:=(aA (i9 (aj 1 aY (aC (dV 0) aN))) (aA (i9 (aj 1 cb (aC (dV 1) aN))) (fK (kr (cJ (cx (aj 1 a5 (aC (dV 2) aN)))) (cJ (b9 (vf (fun i j=>decide (i≤j)) (fun i j=>decide (i≤j)) (dC (.int 1)) (dV 2) (dC (.int 64)))))) (Km 4 (aC (dC (.str "a least number of cells from 1 to 64 is asked for")) aN)) cw)))
def bq:List D→M D:=bT 3 (o4)
def zy:DS:=(aA (i9 (aj 1 aY (aC (dV 0) aN))) (aA (i9 (aj 1 cb (aC (dV 1) aN))) (a_ (aj 2 bo (aC (dV 0) (aC (dV 1) aN))))))
def bN:List D→M D:=bT 2 (zy)
def wR:DS:=(aA (i9 (aj 1 aY (aC (dV 0) aN))) (aA (i9 (aj 1 cb (aC (dV 1) aN))) (a_ (dA a6 (aC (aj 2 bo (aC (dV 0) (aC (dV 1) aN))) aN)))))
def bw:List D→M D:=bT 2 (wR)
def u0:DS:=(aA (bz 3 (aj 2 bo (aC (dV 0) (aC (dV 1) aN)))) (aA (bz 4 (bE 0 (d4 (dV 3)) cM (dA a6 (aC (dV 0) aN)))) (aA (fK (kr (b9 (d2 mz (dA a6 (aC (dV 3) aN)) (dC (.int 1)))) (b9 (d2 CI (dA gO (aC (dV 4) aN)) (dV 2)))) (a_ (dC .non)) cw) (aA (bz 5 (dM p0 tW (dV 4) (aC (dA gO (aC (dV 4) aN)) aN))) (aA (bz 6 (aj 3 dE (aC (dV 0) (aC (dV 3) (aC (dV 5) aN))))) (a_ (aj 3 b6 (aC (dV 0) (aC (d2 di (dV 3) (dV 5)) (aC (aj 2 aL (aC (dV 0) (aC (d2 di (d2 di (dV 3) (dV 6)) (dC (.int 0))) aN))) aN))))))))))
def a8:List D→M D:=bT 7 (u0)
def u4:DS:=(aA (su 3) (aA (bz 4 (dV 0)) (aA (fun ρ=>noex ((wx (b9 (d2 (yy true) (dV 4) (dC .non))) (aA (i8 3 (dV 4)) (bz 4 (aj 3 a8 (aC (dV 4) (aC (dV 1) (aC (dV 2) aN))))))) ρ)) (xU 3 (a_ (dV 3))))))
def bP:List D→M D:=bT 5 (u4)
def pG:DS:=(aA (i9 (aj 3 bq (aC (dV 0) (aC (dV 1) (aC (dV 2) aN))))) (a_ (aj 3 a8 (aC (dV 0) (aC (dV 1) (aC (dV 2) aN))))))
def bH:List D→M D:=bT 3 (pG)
def Ce:DS:=(aA (i9 (aj 3 bq (aC (dV 0) (aC (dV 1) (aC (dV 2) aN))))) (a_ (d2 di (aj 3 bP (aC (dV 0) (aC (dV 1) (aC (dV 2) aN)))) (d1 mD (dC (.int 1))))))
def dD:List D→M D:=bT 3 (Ce)
def wV:DS:=(aA (i9 (aj 3 bq (aC (dV 0) (aC (dV 1) (aC (dV 2) aN))))) (a_ (aj 3 bP (aC (dV 0) (aC (dV 1) (aC (dV 2) aN))))))
def dh:List D→M D:=bT 3 (wV)
def mi:DS:=(bz 1 (aj 3 er (aC (dV 0) (aC (dC (.int 0)) (aC (dC (.int 5)) aN)))))
def mj:DS:=(bz 2 (d2 di (dA fC (aC (dC (.int 4)) (aC (dC (.int 8)) aN))) (aj 3 aF (aC (dV 0) (aC (dC (.int 60)) (aC (dC (.int 2)) aN))))))
def ml:DS:=(bz 3 (d2 cO (dC (.int 1)) (aj 3 aF (aC (dV 0) (aC (dC (.int 61)) (aC (dC (.int 7)) aN))))))
def mm:DS:=(bz 4 (aj 3 dh (aC (dV 1) (aC (dV 2) (aC (dV 3) aN)))))
def mn:DS:=(fK (kr (b9 (d2 pU (d2 di (dV 4) (dC (.int 0))) (dV 1))) (b9 (d2 pU (d2 di (dV 4) (d1 mD (dC (.int 1)))) (aj 3 dD (aC (dV 1) (aC (dV 2) (aC (dV 3) aN))))))) (a_ (dC (.bl false))) cw)
def mq:DS:=(fK (b9 (d2 (yy true) (aj 3 bH (aC (d2 di (dV 4) (d1 mD (dC (.int 1)))) (aC (dV 2) (aC (dV 3) aN)))) (dC .non))) (a_ (dC (.bl false))) cw)
def mr:DS:=(fun ρ=>noex ((d_ (oz [5,6]) (fun ρ=>(aC (dV 4) (aC (JS (dV 4) (oS (dC (.int 1))) oN) aN)) ρ>>=Cd) (cG [5,6,7,8] (aA (fK (b9 (d2 pU (aj 3 bH (aC (dV 5) (aC (dV 2) (aC (dV 3) aN)))) (dV 6))) (a_ (dC (.bl false))) cw) (aA (fK (b9 (d2 CI (aj 2 bw (aC (dV 6) (aC (dV 2) aN))) (aj 2 bw (aC (dV 5) (aC (dV 2) aN))))) (a_ (dC (.bl false))) cw) (aA (bz 7 (bE 0 (d4 (aj 1 iN (aC (dV 5) aN))) (b9 (d2 pU (aj 2 bG (aC (dV 6) (aC (dV 0) aN))) (aj 2 bG (aC (dV 7) (aC (dV 0) aN))))) (dV 0))) (aA (bz 8 (bE 0 (d4 (aj 2 bN (aC (dV 5) (aC (dV 2) aN)))) cM (dA a6 (aC (dV 0) aN)))) (aA (fK (kr (b9 (d2 (Ac true) (dV 7) (aj 2 bN (aC (dV 5) (aC (dV 2) aN))))) (b9 (d2 pU (dA a6 (aC (dV 7) aN)) (dA gO (aC (dV 8) aN))))) (a_ (dC (.bl false))) cw) (fK (b9 (d2 CI (dA a6 (aC (dV 7) aN)) (dV 3))) (a_ (dC (.bl false))) cw)))))))) ρ))
def mv:DS:=(bz 9 (d2 di (dV 4) (d1 mD (dC (.int 1)))))
def mw:DS:=(bz 10 (bE 0 (d4 (aj 2 bN (aC (dV 9) (aC (dV 2) aN)))) (b9 (d2 Fv (dA a6 (aC (dV 0) aN)) (dV 4))) (dV 0)))
def mx:DS:=(fK (CB (b9 (d2 pU (dV 10) (dA fC aN))) (b9 (d2 KC (aj 2 bw (aC (dV 9) (aC (dV 2) aN))) (dC (.int 1))))) (a_ (dC (.bl false))) cw)
def kl:DS:=(fun ρ=>noex ((d_ (putN 11) (fun ρ=>(aC (dC (.int 1)) (aC (d2 cO (dV 3) (dC (.int 1))) aN)) ρ>>=oD) (cG [11] (fK (b9 (d2 pU (aj 3 dD (aC (dV 9) (aC (dV 2) (aC (dV 11) aN)))) (dV 9))) (a_ (dC (.bl false))) cw))) ρ))
def km:DS:=(a_ (dX (d2 mz (aj 3 dh (aC (dV 1) (aC (dV 2) (aC (dC (.int 1)) aN)))) (dA fC (aC (dV 1) aN))) (d2 mz (aj 2 bw (aC (aj 3 dD (aC (dV 1) (aC (dV 2) (aC (dC (.int 64)) aN)))) (aC (dV 2) aN))) (dC (.int 1)))))
def lr:DS:=(aA mi (aA mj (aA ml (aA mm (aA mn (aA mq (aA mr (aA mv (aA mw (aA mx (aA kl km)))))))))))
def iP:List D→M D:=bT 12 lr
structure Bl (K:W.Frag) (mg:Str→Option Value) (base:Heap) (cv:Nat→Value) (cA:Nat→Addr) (Cp:Addr):Prop where
 len:mg "len"=none
 isinstance:mg "isinstance"=none
 all:mg "all"=none
 abs:mg "abs"=none
 max:mg "max"=none
 min:mg "min"=none
 range:mg "range"=none
 str:mg "str"=none
 int:mg "int"=none
 bool:mg "bool"=none
 tuple:mg "tuple"=none
 sorted:mg "sorted"=none
 enumerate:mg "enumerate"=none
 zip:mg "zip"=none
 LETTERS:∃t,mg "LETTERS"=some (.str "abcdef" t)
 MOST_ROWS:∃t,mg "MOST_ROWS"=some (.int 8 t)
 MOST_COLUMNS:∃t,mg "MOST_COLUMNS"=some (.int 8 t)
 GREATEST_LEAST:∃t,mg "GREATEST_LEAST"=some (.int 64 t)
section
variable{P:Program}{w:World}{K:W.Frag}{mg:Str→Option Value}{base:Heap}{cv:Nat→Value}{cA:Nat→Addr}{Cp:Addr}{f:Addr}
abbrev jD:Stmt:=top 10
def nX:List Str:=["thing"]
def og:List Str:=["thing"]
theorem uO:FnScope nX og (af jD):=⟨rfl,rfl,rfl,by decide+kernel,rfl,by decide+kernel,by decide+kernel⟩
theorem uw(B:Bl K mg base cv cA Cp)(T:bj K mg "is_whole" jD f):ah P w K mg base cv 1 "is_whole" 1 (a5):=
 ay (N:=nX) (ps:=og) T uO (fun _ _ _ _ _ _ us hl=>match us,hl with | [_],_=>rfl) fun bu A outer s H E hr=>
  (ao (az (om (kO rfl B.isinstance rfl (aa (ab (pv 0)) (aa (qu rfl B.int rfl) ae))) (r9 (Gm (kO rfl B.isinstance rfl (aa (ab (pv 0)) (aa (qu rfl B.bool rfl) ae))))))))
abbrev iy:Stmt:=top 11
def lM:List Str:=["thing"]
def l5:List Str:=["thing"]
theorem sy:FnScope lM l5 (af iy):=⟨rfl,rfl,rfl,by decide+kernel,rfl,by decide+kernel,by decide+kernel⟩
theorem rM(B:Bl K mg base cv cA Cp)(T:bj K mg "is_letter" iy f):ah P w K mg base cv 1 "is_letter" 1 (cN):=
 ay (N:=lM) (ps:=l5) T sy (fun _ _ _ _ _ _ us hl=>match us,hl with | [_],_=>rfl) fun bu A outer s H E hr=>
  (ao (az (om (kO rfl B.isinstance rfl (aa (ab (pv 0)) (aa (qu rfl B.str rfl) ae))) (om (qr hr.units (bD rfl B.len (aa (ab (pv 0)) ae)) av) (r9 (Gj (ab (pv 0)) (DC rfl B.LETTERS (by decide))))))))
abbrev dQ:Stmt:=top 18
def dH:List Str:=["board","row"]
def ig:List Str:=["board","row"]
theorem mJ:FnScope dH ig (af dQ):=⟨rfl,rfl,rfl,by decide+kernel,rfl,by decide+kernel,by decide+kernel⟩
theorem mE(B:Bl K mg base cv cA Cp)(T:bj K mg "cells_of_row" dQ f):ah P w K mg base cv 1 "cells_of_row" 2 (ba):=
 ay (N:=dH) (ps:=ig) T mJ (fun _ _ _ _ _ _ us hl=>match us,hl with | [_,_],_=>rfl) fun bu A outer s H E hr=>
  (ao (az (iW (tn:=["column"]) (n:=0) (bX (N:=dH) (osc:=(af dQ)) rfl rfl (by decide+kernel)) rfl rfl (fc rfl B.range (aa (bD rfl B.len (aa (bM (ab (pv 0)) av) ae)) ae)) (fun _ _ _ _ _ _ _=>dU (show List.Nodup (((["column"]:List Str))++dm ["column"] dH) by decide+kernel) rfl rfl) (fun _ _ _ _ _ _=>eA) (fun _ _ _ _ _ _=>(iq (aa (ab (pv 2)) (aa (ab (pv 0)) ae)))))))
abbrev iB:Stmt:=top 20
def lP:List Str:=["board","cell"]
def l9:List Str:=["board","cell"]
theorem sC:FnScope lP l9 (af iB):=⟨rfl,rfl,rfl,by decide+kernel,rfl,by decide+kernel,by decide+kernel⟩
theorem rQ(B:Bl K mg base cv cA Cp)(T:bj K mg "letter_of" iB f):ah P w K mg base cv 1 "letter_of" 2 (aL):=
 ay (N:=lP) (ps:=l9) T sC (fun _ _ _ _ _ _ us hl=>match us,hl with | [_,_],_=>rfl) fun bu A outer s H E hr=>
  (ao (az (Bd (bM (ab (pv 0)) (bM (ab (pv 1)) av)) (bM (ab (pv 1)) av))))
abbrev jB:Stmt:=top 21
def nV:List Str:=["one","other","ways","down","along"]
def n_:List Str:=["one","other","ways"]
theorem iE:FnScope nV n_ (af jB):=⟨rfl,rfl,rfl,by decide+kernel,rfl,by decide+kernel,by decide+kernel⟩
theorem ur(B:Bl K mg base cv cA Cp)(T:bj K mg "are_next" jB f):ah P w K mg base cv 1 "are_next" 3 (dg):=
 ay (N:=nV) (ps:=n_) T iE (fun _ _ _ _ _ _ us hl=>match us,hl with | [_,_,_],_=>rfl) fun bu A outer s H E hr=>
  (ag (aR iE.nd rfl (by first | exact .inl rfl | exact .inr rfl) (Ba rfl B.abs (aa (oq (bM (ab (pv 0)) av) (bM (ab (pv 1)) av)) ae) rfl)) (ag (aR iE.nd rfl (by first | exact .inl rfl | exact .inr rfl) (Ba rfl B.abs (aa (oq (bM (ab (pv 0)) av) (bM (ab (pv 1)) av)) ae) rfl)) (ag (bx (xO hr.units (ab (pv 2)) av) (ao (az (qr hr.units (cu (ab (pv 3)) (ab (pv 4))) av))) aZ) (ao (az (qr hr.units (wk rfl rfl B.max rfl (aa (ab (pv 3)) (aa (ab (pv 4)) ae))) av))))))
abbrev sx:Stmt:=top 23
def xD:List Str:=["things","found","thing"]
def xI:List Str:=["things"]
theorem oG:FnScope xD xI (af sx):=⟨rfl,rfl,rfl,by decide+kernel,rfl,by decide+kernel,by decide+kernel⟩
theorem A4(B:Bl K mg base cv cA Cp)(T:bj K mg "keyed" sx f):ah P w K mg base cv 1 "keyed" 1 (fq):=
 ay (N:=xD) (ps:=xI) T oG (fun _ _ _ _ _ _ us hl=>match us,hl with | [_],_=>rfl) fun bu A outer s H E hr=>
  (ag (j7 oG.nd rfl (by first | exact .inl rfl | exact .inr rfl)) (ag (cW (bW PassesOwn.never rfl (DD (b7 (ab (pv 0))) (Bi (ab (pv 0)))) (bc oG.nd rfl (by first | exact .inl rfl | exact .inr rfl)) b8 (br (ao (j8 hr.units (pv 1) (ab (pv 2)) fI))))) (ao (dO (i:=1) (az (ab (pv 1)))))))
abbrev gF:Stmt:=top 31
def jW:List Str:=["found","numbers","number","patch","cell"]
def j4:List Str:=["found"]
theorem c8:FnScope jW j4 (af gF):=⟨rfl,rfl,rfl,by decide+kernel,rfl,by decide+kernel,by decide+kernel⟩
theorem pw(B:Bl K mg base cv cA Cp)(T:bj K mg "numbers_of" gF f):ah P w K mg base cv 1 "numbers_of" 1 (eG):=
 ay (N:=jW) (ps:=j4) T c8 (fun _ _ _ _ _ _ us hl=>match us,hl with | [_],_=>rfl) fun bu A outer s H E hr=>
  (ag (j7 c8.nd rfl (by first | exact .inl rfl | exact .inr rfl)) (ag (cW (bW PassesOwn.never rfl (Bh rfl B.enumerate (aa (ab (pv 0)) ae)) (wm rfl (gf (bc c8.nd rfl (by first | exact .inl rfl | exact .inr rfl)) (gf (bc c8.nd rfl (by first | exact .inl rfl | exact .inr rfl)) r_))) (sf (is:=[2,3])) (br (ao (bW PassesOwn.never rfl (b7 (ab (pv 3))) (bc c8.nd rfl (by first | exact .inl rfl | exact .inr rfl)) b8 (br (ao (j8 hr.units (pv 1) (ab (pv 4)) (ab (pv 2)))))))))) (ao (dO (i:=1) (az (ab (pv 1)))))))
abbrev jE:Stmt:=top 46
def nY:List Str:=["_law_script","_law_k"]
def oi:List Str:=["_law_script","_law_k"]
theorem uP:FnScope nY oi (af jE):=⟨rfl,rfl,rfl,by decide+kernel,rfl,by decide+kernel,by decide+kernel⟩
theorem ux(B:Bl K mg base cv cA Cp)(T:bj K mg "_law_cell" jE f):ah P w K mg base cv 1 "_law_cell" 2 (eY):=
 ay (N:=nY) (ps:=oi) T uP (fun _ _ _ _ _ _ us hl=>match us,hl with | [_,_],_=>rfl) fun bu A outer s H E hr=>
  (ag (bx (xO hr.units (ab (pv 0)) (kP ae)) (ao (az (jz av (ab (pv 1))))) aZ) (ao (az (cu (Gk (ab (pv 0)) (kQ (ab (pv 1)) (bD rfl B.len (aa (ab (pv 0)) ae)))) (jz av (rX (ab (pv 1)) (bD rfl B.len (aa (ab (pv 0)) ae))))))))
abbrev kc:Stmt:=top 12
def jS:List Str:=["thing"]
def uA:List Str:=["thing"]
theorem zk:FnScope jS uA (af kc):=⟨rfl,rfl,rfl,by decide+kernel,rfl,by decide+kernel,by decide+kernel⟩
theorem yX(B:Bl K mg base cv cA Cp)(tf:ah P w K mg base cv 1 "is_letter" 1 cN)(T:bj K mg "is_row" kc f):ah P w K mg base cv 2 "is_row" 1 (eX):=
 ay (N:=jS) (ps:=uA) T zk (fun _ _ _ _ _ _ us hl=>match us,hl with | [_],_=>rfl) fun bu A outer s H E hr=>
  (ag (bx (PDW.t (gz (cV (c_ (kO rfl B.isinstance rfl (aa (ab (pv 0)) (aa (qu rfl B.str rfl) ae))))) (eK (cV (wq lW lW av (bD rfl B.len (aa (ab (pv 0)) ae)) (rY rfl B.MOST_COLUMNS)))))) (ao (az fI)) aZ) (ao (az (wj rfl rfl B.all rfl (aa (iW (tn:=["sign"]) (n:=0) (bX (N:=jS) (osc:=(af kc)) rfl rfl (by decide+kernel)) rfl rfl (DG (ab (pv 0))) (fun _ _ _ _ _ _ _=>dU (show List.Nodup (((["sign"]:List Str))++dm ["sign"] jS) by decide+kernel) rfl rfl) (fun _ _ _ _ _ _=>eA) (fun _ _ _ _ _ _=>(aO tf (hr.mono (by decide)) rfl cy (aa (ab (pv 0)) ae) rfl))) ae)))))
abbrev k_:Stmt:=top 14
def qf:List Str:=["board","thing"]
def qo:List Str:=["board","thing"]
theorem wy:FnScope qf qo (af k_):=⟨rfl,rfl,rfl,by decide+kernel,rfl,by decide+kernel,by decide+kernel⟩
theorem v_(B:Bl K mg base cv cA Cp)(dY:ah P w K mg base cv 1 "is_whole" 1 a5)(T:bj K mg "is_cell" k_ f):ah P w K mg base cv 2 "is_cell" 2 (iO):=
 ay (N:=qf) (ps:=qo) T wy (fun _ _ _ _ _ _ us hl=>match us,hl with | [_,_],_=>rfl) fun bu A outer s H E hr=>
  (ag (bx (PDW.t (gz (cV (c_ (kO rfl B.isinstance rfl (aa (ab (pv 1)) (aa (qu rfl B.tuple rfl) ae))))) (eK (me hr.units (bD rfl B.len (aa (ab (pv 1)) ae)) av)))) (ao (az fI)) aZ) (ag (bx (PDW.t (gz (cV (c_ (aO dY (hr.mono (by decide)) rfl aP (aa (bM (ab (pv 1)) av) ae) rfl))) (eK (cV (c_ (aO dY (hr.mono (by decide)) rfl aP (aa (bM (ab (pv 1)) av) ae) rfl)))))) (ao (az fI)) aZ) (ao (az (om (Bb lW A7 av (bM (ab (pv 1)) av) (bD rfl B.len (aa (ab (pv 0)) ae))) (r9 (Bb lW A7 av (bM (ab (pv 1)) av) (bD rfl B.len (aa (bM (ab (pv 0)) av) ae)))))))))
abbrev iD:Stmt:=top 17
def lR:List Str:=["thing"]
def ma:List Str:=["thing"]
theorem sE:FnScope lR ma (af iD):=⟨rfl,rfl,rfl,by decide+kernel,rfl,by decide+kernel,by decide+kernel⟩
theorem rS(B:Bl K mg base cv cA Cp)(dY:ah P w K mg base cv 1 "is_whole" 1 a5)(T:bj K mg "need_ways" iD f):ah P w K mg base cv 2 "need_ways" 1 (cb):=
 ay (N:=lR) (ps:=ma) T sE (fun _ _ _ _ _ _ us hl=>match us,hl with | [_],_=>rfl) fun bu A outer s H E hr=>
  (ao (bx (PDW.t (gz (cV (c_ (aO dY (hr.mono (by decide)) rfl aP (aa (ab (pv 0)) ae) rfl))) (eK (zh (ab (pv 0)) (iq (aa av (aa av ae))))))) (ao iY) aZ))
abbrev iw:Stmt:=top 19
def lJ:List Str:=["board","found","row"]
def lY:List Str:=["board"]
theorem gH:FnScope lJ lY (af iw):=⟨rfl,rfl,rfl,by decide+kernel,rfl,by decide+kernel,by decide+kernel⟩
theorem rK(B:Bl K mg base cv cA Cp)(eV:ah P w K mg base cv 1 "cells_of_row" 2 ba)(T:bj K mg "all_cells" iw f):ah P w K mg base cv 2 "all_cells" 1 (bF):=
 ay (N:=lJ) (ps:=lY) T gH (fun _ _ _ _ _ _ us hl=>match us,hl with | [_],_=>rfl) fun bu A outer s H E hr=>
  (ag (gA gH.nd rfl (by first | exact .inl rfl | exact .inr rfl)) (ag (cW (bW PassesOwn.never rfl (fc rfl B.range (aa (bD rfl B.len (aa (ab (pv 0)) ae)) ae)) (bc gH.nd rfl (by first | exact .inl rfl | exact .inr rfl)) b8 (br (ao (DW (pv 1) (aO eV (hr.mono (by decide)) rfl cy (aa (ab (pv 0)) (aa (ab (pv 2)) ae)) rfl)))))) (ao (dO (i:=1) (az (ab (pv 1)))))))
abbrev gE:Stmt:=top 22
def jV:List Str:=["board","cell","ways","found","row","column"]
def j3:List Str:=["board","cell","ways"]
theorem ej:FnScope jV j3 (af gE):=⟨rfl,rfl,rfl,by decide+kernel,rfl,by decide+kernel,by decide+kernel⟩
theorem pq(B:Bl K mg base cv cA Cp)(vv:ah P w K mg base cv 1 "are_next" 3 dg)(T:bj K mg "next_cells" gE f):ah P w K mg base cv 2 "next_cells" 3 (bb):=
 ay (N:=jV) (ps:=j3) T ej (fun _ _ _ _ _ _ us hl=>match us,hl with | [_,_,_],_=>rfl) fun bu A outer s H E hr=>
  (ag (gA ej.nd rfl (by first | exact .inl rfl | exact .inr rfl)) (ag (cW (bW PassesOwn.never rfl (jA rfl B.range (aa (wk rfl rfl B.max rfl (aa (oq (bM (ab (pv 1)) av) av) (aa av ae))) (aa (Be rfl rfl B.min rfl (aa (cu (bM (ab (pv 1)) av) av) (aa (bD rfl B.len (aa (ab (pv 0)) ae)) ae))) ae))) (bc ej.nd rfl (by first | exact .inl rfl | exact .inr rfl)) b8 (br (ao (bW PassesOwn.never rfl (jA rfl B.range (aa (wk rfl rfl B.max rfl (aa (oq (bM (ab (pv 1)) av) av) (aa av ae))) (aa (Be rfl rfl B.min rfl (aa (cu (bM (ab (pv 1)) av) av) (aa (bD rfl B.len (aa (bM (ab (pv 0)) av) ae)) ae))) ae))) (bc ej.nd rfl (by first | exact .inl rfl | exact .inr rfl)) b8 (br (ao (bx (c_ (aO vv (hr.mono (by decide)) rfl cy (aa (ab (pv 1)) (aa (iq (aa (ab (pv 4)) (aa (ab (pv 5)) ae))) (aa (ab (pv 2)) ae))) rfl)) (ao (iX (pv 3) (iq (aa (ab (pv 4)) (aa (ab (pv 5)) ae))))) aZ)))))))) (ao (dO (i:=3) (az (ab (pv 3)))))))
abbrev dR:Stmt:=top 24
def dI:List Str:=["board","some","letter","marked","told","row","places"]
def il:List Str:=["board","some","letter"]
theorem cB:FnScope dI il (af dR):=⟨rfl,rfl,rfl,by decide+kernel,rfl,by decide+kernel,by decide+kernel⟩
theorem mH(B:Bl K mg base cv cA Cp)(qS:ah P w K mg base cv 1 "keyed" 1 fq)(eV:ah P w K mg base cv 1 "cells_of_row" 2 ba)(b_:ah P w K mg base cv 1 "letter_of" 2 aL)(T:bj K mg "with_letters" dR f):ah P w K mg base cv 2 "with_letters" 3 (b6):=
 ay (N:=dI) (ps:=il) T cB (fun _ _ _ _ _ _ us hl=>match us,hl with | [_,_,_],_=>rfl) fun bu A outer s H E hr=>
  (ag (aR cB.nd rfl (by first | exact .inl rfl | exact .inr rfl) (aO qS (hr.mono (by decide)) rfl aP (aa (ab (pv 1)) ae) rfl)) (ag (gA cB.nd rfl (by first | exact .inl rfl | exact .inr rfl)) (ag (cW (bW PassesOwn.never rfl (fc rfl B.range (aa (bD rfl B.len (aa (ab (pv 0)) ae)) ae)) (bc cB.nd rfl (by first | exact .inl rfl | exact .inr rfl)) b8 (br (ag (aR cB.nd rfl (by first | exact .inl rfl | exact .inr rfl) (aO eV (hr.mono (by decide)) rfl cy (aa (ab (pv 0)) (aa (ab (pv 5)) ae)) rfl)) (ao (iX (pv 4) (xM kS (aa (iW (tn:=["cell"]) (n:=0) (bX (N:=dI) (osc:=(af dR)) rfl rfl (by decide+kernel)) rfl rfl (b7 (ab (pv 6))) (fun _ _ _ _ _ _ _=>dU (show List.Nodup (((["cell"]:List Str))++dm ["cell"] dI) by decide+kernel) rfl rfl) (fun _ _ _ _ _ _=>eA) (fun _ _ _ _ _ _=>(Je (GF hr.units (ab (pv 0)) (ab (pv 4))) (ab (pv 3)) (aO b_ (hr.mono (by decide)) rfl cy (aa (ab (pv 1)) (aa (ab (pv 0)) ae)) rfl)))) ae)))))))) (ao (dO (i:=4) (az (Bg rfl B.tuple rfl (aa (ab (pv 4)) ae))))))))
abbrev iz:Stmt:=top 47
def lN:List Str:=["_law_script","_law_k","_law_many","_law_cell_here"]
def l7:List Str:=["_law_script","_law_k","_law_many"]
theorem gJ:FnScope lN l7 (af iz):=⟨rfl,rfl,rfl,by decide+kernel,rfl,by decide+kernel,by decide+kernel⟩
theorem rO(B:Bl K mg base cv cA Cp)(vx:ah P w K mg base cv 1 "_law_cell" 2 eY)(T:bj K mg "_law_drawn" iz f):ah P w K mg base cv 2 "_law_drawn" 3 (aF):=
 ay (N:=lN) (ps:=l7) T gJ (fun _ _ _ _ _ _ us hl=>match us,hl with | [_,_,_],_=>rfl) fun bu A outer s H E hr=>
  (ag (aR gJ.nd rfl (by first | exact .inl rfl | exact .inr rfl) (kQ (cu (jz (kQ (aO vx (hr.mono (by decide)) rfl aP (aa (ab (pv 0)) (aa (ab (pv 1)) ae)) rfl) av) av) (jz av (cu (ab (pv 1)) av))) av)) (ag (aR gJ.nd rfl (by first | exact .inl rfl | exact .inr rfl) (kQ (cu (jz (ab (pv 3)) (ab (pv 3))) (rX (ab (pv 3)) av)) av)) (ao (az (kQ (rX (kQ (cu (jz (ab (pv 3)) (ab (pv 3))) (rX (ab (pv 3)) av)) av) av) (ab (pv 2)))))))
abbrev fg:Stmt:=top 13
def d8:List Str:=["thing"]
def oe:List Str:=["thing"]
theorem uN:FnScope d8 oe (af fg):=⟨rfl,rfl,rfl,by decide+kernel,rfl,by decide+kernel,by decide+kernel⟩
theorem uv(B:Bl K mg base cv cA Cp)(zM:ah P w K mg base cv 2 "is_row" 1 eX)(T:bj K mg "is_board" fg f):ah P w K mg base cv 3 "is_board" 1 (gn):=
 ay (N:=d8) (ps:=oe) T uN (fun _ _ _ _ _ _ us hl=>match us,hl with | [_],_=>rfl) fun bu A outer s H E hr=>
  (ag (bx (PDW.t (gz (cV (c_ (kO rfl B.isinstance rfl (aa (ab (pv 0)) (aa (qu rfl B.tuple rfl) ae))))) (eK (cV (wq lW lW av (bD rfl B.len (aa (ab (pv 0)) ae)) (rY rfl B.MOST_ROWS)))))) (ao (az fI)) aZ) (ag (bx (cV (c_ (wj rfl rfl B.all rfl (aa (iW (tn:=["row"]) (n:=0) (bX (N:=d8) (osc:=(af fg)) rfl rfl (by decide+kernel)) rfl rfl (xN (ab (pv 0))) (fun _ _ _ _ _ _ _=>dU (show List.Nodup (((["row"]:List Str))++dm ["row"] d8) by decide+kernel) rfl rfl) (fun _ _ _ _ _ _=>eA) (fun _ _ _ _ _ _=>(aO zM (hr.mono (by decide)) rfl cy (aa (ab (pv 0)) ae) rfl))) ae)))) (ao (az fI)) aZ) (ao (az (wj rfl rfl B.all rfl (aa (iW (tn:=["row"]) (n:=0) (bX (N:=d8) (osc:=(af fg)) rfl rfl (by decide+kernel)) rfl rfl (xN (ab (pv 0))) (fun _ _ _ _ _ _ _=>dU (show List.Nodup (((["row"]:List Str))++dm ["row"] d8) by decide+kernel) rfl rfl) (fun _ _ _ _ _ _=>eA) (fun _ _ _ _ _ _=>(qr hr.units (bD rfl B.len (aa (ab (pv 0)) ae)) (bD rfl B.len (aa (bM (ab (pv 1)) av) ae))))) ae))))))
abbrev iC:Stmt:=top 16
def lQ:List Str:=["board","thing"]
def l_:List Str:=["board","thing"]
theorem sD:FnScope lQ l_ (af iC):=⟨rfl,rfl,rfl,by decide+kernel,rfl,by decide+kernel,by decide+kernel⟩
theorem rR(B:Bl K mg base cv cA Cp)(yf:ah P w K mg base cv 2 "is_cell" 2 iO)(T:bj K mg "need_cell" iC f):ah P w K mg base cv 3 "need_cell" 2 (ft):=
 ay (N:=lQ) (ps:=l_) T sD (fun _ _ _ _ _ _ us hl=>match us,hl with | [_,_],_=>rfl) fun bu A outer s H E hr=>
  (ao (bx (cV (c_ (aO yf (hr.mono (by decide)) rfl aP (aa (ab (pv 0)) (aa (ab (pv 1)) ae)) rfl))) (ao iY) aZ))
abbrev eL:Stmt:=top 28
def eJ:List Str:=["board","cell","ways","letter"]
def j0:List Str:=["board","cell","ways"]
theorem jh:FnScope eJ j0 (af eL):=⟨rfl,rfl,rfl,by decide+kernel,rfl,by decide+kernel,by decide+kernel⟩
theorem ph(B:Bl K mg base cv cA Cp)(b_:ah P w K mg base cv 1 "letter_of" 2 aL)(gm:ah P w K mg base cv 2 "next_cells" 3 bb)(T:bj K mg "like_cells" eL f):ah P w K mg base cv 3 "like_cells" 3 (cg):=
 ay (N:=eJ) (ps:=j0) T jh (fun _ _ _ _ _ _ us hl=>match us,hl with | [_,_,_],_=>rfl) fun bu A outer s H E hr=>
  (ag (aR jh.nd rfl (by first | exact .inl rfl | exact .inr rfl) (aO b_ (hr.mono (by decide)) rfl aP (aa (ab (pv 0)) (aa (ab (pv 1)) ae)) rfl)) (ao (az (iW (tn:=["near"]) (n:=0) (bX (N:=eJ) (osc:=(af eL)) rfl rfl (by decide+kernel)) rfl rfl (b7 (aO gm (hr.mono (by decide)) rfl aP (aa (ab (pv 0)) (aa (ab (pv 1)) (aa (ab (pv 2)) ae))) rfl)) (fun _ _ _ _ _ _ _=>dU (show List.Nodup (((["near"]:List Str))++dm ["near"] eJ) by decide+kernel) rfl rfl) (fun _ _ _ _ _ _=>(oT (xO hr.units (aO b_ (hr.mono (by decide)) rfl cy (aa (ab (pv 1)) (aa (ab (pv 0)) ae)) rfl) (ab (pv 4))))) (fun _ _ _ _ _ _=>(ab (pv 0)))))))
abbrev fk:Stmt:=top 35
def hJ:List Str:=["board","found","numbers","shared","cell","near","pair"]
def ik:List Str:=["board","found"]
theorem bO:FnScope hJ ik (af fk):=⟨rfl,rfl,rfl,by decide+kernel,rfl,by decide+kernel,by decide+kernel⟩
theorem mG(B:Bl K mg base cv cA Cp)(qV:ah P w K mg base cv 1 "numbers_of" 1 eG)(el:ah P w K mg base cv 2 "all_cells" 1 bF)(gm:ah P w K mg base cv 2 "next_cells" 3 bb)(T:bj K mg "shared_sides" fk f):ah P w K mg base cv 3 "shared_sides" 2 (bZ):=
 ay (N:=hJ) (ps:=ik) T bO (fun _ _ _ _ _ _ us hl=>match us,hl with | [_,_],_=>rfl) fun bu A outer s H E hr=>
  (ag (aR bO.nd rfl (by first | exact .inl rfl | exact .inr rfl) (aO qV (hr.mono (by decide)) rfl aP (aa (ab (pv 1)) ae) rfl)) (ag (j7 bO.nd rfl (by first | exact .inl rfl | exact .inr rfl)) (ag (cW (bW PassesOwn.never rfl (b7 (aO el (hr.mono (by decide)) rfl cy (aa (ab (pv 0)) ae) rfl)) (bc bO.nd rfl (by first | exact .inl rfl | exact .inr rfl)) b8 (br (ao (bW PassesOwn.never rfl (b7 (aO gm (hr.mono (by decide)) rfl cy (aa (ab (pv 0)) (aa (ab (pv 4)) (aa av ae))) rfl)) (bc bO.nd rfl (by first | exact .inl rfl | exact .inr rfl)) b8 (br (ao (bx (E3 (rZ hr.units (ab (pv 2)) (ab (pv 4))) (rZ hr.units (ab (pv 2)) (ab (pv 5)))) (ag (aR bO.nd rfl (by first | exact .inl rfl | exact .inr rfl) (iq (aa (rZ hr.units (ab (pv 2)) (ab (pv 4))) (aa (rZ hr.units (ab (pv 2)) (ab (pv 5))) ae)))) (ao (j8 hr.units (pv 3) (ab (pv 6)) (Jg (cu (Dy hr.units (ab (pv 3)) (ab (pv 6)) av ⟨rfl,rfl,rfl,rfl⟩) av))))) aZ)))))))) (ao (dO (i:=3) (az (ab (pv 3))))))))
abbrev fM:Stmt:=top 48
def fF:List Str:=["_law_script","_law_at","_law_most","_law_rows","_law_wide","_law_alphabet","_law_found","_law_row","_law_signs"]
def l6:List Str:=["_law_script","_law_at","_law_most"]
theorem bQ:FnScope fF l6 (af fM):=⟨rfl,rfl,rfl,by decide+kernel,rfl,by decide+kernel,by decide+kernel⟩
set_option maxHeartbeats 4000000 in
theorem rN(B:Bl K mg base cv cA Cp)(bp:ah P w K mg base cv 2 "_law_drawn" 3 aF)(T:bj K mg "_law_board" fM f):ah P w K mg base cv 3 "_law_board" 3 (er):=
 ay (N:=fF) (ps:=l6) T bQ (fun _ _ _ _ _ _ us hl=>match us,hl with | [_,_,_],_=>rfl) fun bu A outer s H E hr=>
  (ag (aR bQ.nd rfl (by first | exact .inl rfl | exact .inr rfl) (cu av (aO bp (hr.mono (by decide)) rfl aP (aa (ab (pv 0)) (aa (ab (pv 1)) (aa (ab (pv 2)) ae))) rfl))) (ag (aR bQ.nd rfl (by first | exact .inl rfl | exact .inr rfl) (cu av (aO bp (hr.mono (by decide)) rfl aP (aa (ab (pv 0)) (aa (cu (ab (pv 1)) av) (aa (ab (pv 2)) ae))) rfl))) (ag (aR bQ.nd rfl (by first | exact .inl rfl | exact .inr rfl) (fb (kP (aa kS (aa kS (aa kS (aa kS ae))))) (aO bp (hr.mono (by decide)) rfl aP (aa (ab (pv 0)) (aa (cu (ab (pv 1)) av) (aa av ae))) rfl))) (ag (aR bQ.nd rfl (by first | exact .inl rfl | exact .inr rfl) (iq ae)) (ag (cW (bW PassesOwn.never rfl (fc rfl B.range (aa (ab (pv 3)) ae)) (bc bQ.nd rfl (by first | exact .inl rfl | exact .inr rfl)) b8 (br (ag (eu (tn:=["_law_k"]) (n:=0) bQ.nd rfl (by first | exact .inl rfl | exact .inr rfl) (bX (N:=fF) (osc:=(af fM)) rfl rfl (by decide+kernel)) rfl rfl (fc rfl B.range (aa (ab (pv 4)) ae)) (fun _ _ _ _ _ _ _=>dU (show List.Nodup (((["_law_k"]:List Str))++dm ["_law_k"] fF) by decide+kernel) rfl rfl) (fun _ _ _ _ _ _=>eA) (fun _ _ _ _ _ _=>(Bd (ab (pv 6)) (aO bp (hr.mono (by decide)) rfl cy (aa (ab (pv 1)) (aa (cu (cu (cu (ab (pv 2)) av) (jz av (ab (pv 8)))) (ab (pv 0))) (aa (bD rfl B.len (aa (ab (pv 6)) ae)) ae))) rfl)))) (ao (aR bQ.nd rfl (by first | exact .inl rfl | exact .inr rfl) (Dx (ab (pv 6)) (iq (aa (xM kS (aa (ab (pv 8)) ae)) ae))))))))) (ao (az (ab (pv 6)))))))))
abbrev gD:Stmt:=top 15
def jU:List Str:=["thing"]
def j2:List Str:=["thing"]
theorem pB:FnScope jU j2 (af gD):=⟨rfl,rfl,rfl,by decide+kernel,rfl,by decide+kernel,by decide+kernel⟩
theorem pk(B:Bl K mg base cv cA Cp)(vw:ah P w K mg base cv 3 "is_board" 1 gn)(T:bj K mg "need_board" gD f):ah P w K mg base cv 4 "need_board" 1 (aY):=
 ay (N:=jU) (ps:=j2) T pB (fun _ _ _ _ _ _ us hl=>match us,hl with | [_],_=>rfl) fun bu A outer s H E hr=>
  (ao (bx (cV (c_ (aO vw (hr.mono (by decide)) rfl aP (aa (ab (pv 0)) ae) rfl))) (ao iY) aZ))
abbrev gG:Stmt:=top 29
def jX:List Str:=["board","start","ways","back","ring","further","cell","near"]
def j5:List Str:=["board","start","ways"]
theorem bU:FnScope jX j5 (af gG):=⟨rfl,rfl,rfl,by decide+kernel,rfl,by decide+kernel,by decide+kernel⟩
theorem pz(B:Bl K mg base cv cA Cp)(qT:ah P w K mg base cv 3 "like_cells" 3 cg)(T:bj K mg "steps_back" gG f):ah P w K mg base cv 4 "steps_back" 3 (cj):=
 ay (N:=jX) (ps:=j5) T bU (fun _ _ _ _ _ _ us hl=>match us,hl with | [_,_,_],_=>rfl) fun bu A outer s H E hr=>
  (ag (BA bU.nd rfl (by first | exact .inl rfl | exact .inr rfl) (zb hr.units (ab (pv 1)) r6)) (ag (aR bU.nd rfl (by first | exact .inl rfl | exact .inr rfl) (kP (aa (ab (pv 1)) ae))) (ag (cW (qw PassesOwn.never (c_ (ab (pv 4))) (br (ag (gA bU.nd rfl (by first | exact .inl rfl | exact .inr rfl)) (ag (bW PassesOwn.never rfl (b7 (ab (pv 4))) (bc bU.nd rfl (by first | exact .inl rfl | exact .inr rfl)) b8 (br (ao (bW PassesOwn.never rfl (b7 (aO qT (hr.mono (by decide)) rfl cy (aa (ab (pv 0)) (aa (ab (pv 6)) (aa (ab (pv 2)) ae))) rfl)) (bc bU.nd rfl (by first | exact .inl rfl | exact .inr rfl)) b8 (br (ao (bx (Bn (qx hr.units (ab (pv 7)) (ab (pv 3)))) (ag (j8 hr.units (pv 3) (ab (pv 7)) (ab (pv 6))) (ao (iX (pv 5) (ab (pv 7))))) aZ))))))) (ao (dO (i:=5) (aR bU.nd rfl (by first | exact .inl rfl | exact .inr rfl) (ab (pv 5)))))))))) (ao (dO (i:=3) (az (ab (pv 3))))))))
abbrev gB:Stmt:=top 39
def jT:List Str:=["board","found","number","choices","pair","sides","other"]
def j1:List Str:=["board","found","number"]
theorem c7:FnScope jT j1 (af gB):=⟨rfl,rfl,rfl,by decide+kernel,rfl,by decide+kernel,by decide+kernel⟩
theorem pj(B:Bl K mg base cv cA Cp)(m6:ah P w K mg base cv 3 "shared_sides" 2 bZ)(T:bj K mg "melts_into" gB f):ah P w K mg base cv 4 "melts_into" 3 (dE):=
 ay (N:=jT) (ps:=j1) T c7 (fun _ _ _ _ _ _ us hl=>match us,hl with | [_,_,_],_=>rfl) fun bu A outer s H E hr=>
  (ag (gA c7.nd rfl (by first | exact .inl rfl | exact .inr rfl)) (ag (cW (bW PassesOwn.never rfl (zc (aO m6 (hr.mono (by decide)) rfl cy (aa (ab (pv 0)) (aa (ab (pv 1)) ae)) rfl)) (wm rfl (gf (bc c7.nd rfl (by first | exact .inl rfl | exact .inr rfl)) (gf (bc c7.nd rfl (by first | exact .inl rfl | exact .inr rfl)) r_))) (sf (is:=[4,5])) (br (ao (bx (GG (ab (pv 2)) (ab (pv 4))) (ag (aR c7.nd rfl (by first | exact .inl rfl | exact .inr rfl) (oq (cu (bM (ab (pv 4)) av) (bM (ab (pv 4)) av)) (ab (pv 2)))) (ao (iX (pv 3) (iq (aa (kR (ab (pv 5))) (aa (kR (bD rfl B.len (aa (fb (ab (pv 1)) (ab (pv 6))) ae))) (aa (ab (pv 6)) ae))))))) aZ))))) (ao (dO (i:=3) (az (bM (Bf hr.units rfl rfl B.min rfl (aa (ab (pv 3)) ae)) av))))))
abbrev sv:Stmt:=top 25
def xC:List Str:=["board"]
def xH:List Str:=["board"]
theorem BR:FnScope xC xH (af sv):=⟨rfl,rfl,rfl,by decide+kernel,rfl,by decide+kernel,by decide+kernel⟩
theorem A3(B:Bl K mg base cv cA Cp)(bC:ah P w K mg base cv 4 "need_board" 1 aY)(el:ah P w K mg base cv 2 "all_cells" 1 bF)(T:bj K mg "cells" sv f):ah P w K mg base cv 5 "cells" 1 (iN):=
 ay (N:=xC) (ps:=xH) T BR (fun _ _ _ _ _ _ us hl=>match us,hl with | [_],_=>rfl) fun bu A outer s H E hr=>
  (ag (da (aO bC (hr.mono (by decide)) rfl aP (aa (ab (pv 0)) ae) rfl)) (ao (az (aO el (hr.mono (by decide)) rfl aP (aa (ab (pv 0)) ae) rfl))))
abbrev iA:Stmt:=top 26
def lO:List Str:=["board","cell"]
def l8:List Str:=["board","cell"]
theorem sA:FnScope lO l8 (af iA):=⟨rfl,rfl,rfl,by decide+kernel,rfl,by decide+kernel,by decide+kernel⟩
theorem rP(B:Bl K mg base cv cA Cp)(bC:ah P w K mg base cv 4 "need_board" 1 aY)(tj:ah P w K mg base cv 3 "need_cell" 2 ft)(b_:ah P w K mg base cv 1 "letter_of" 2 aL)(T:bj K mg "letter_at" iA f):ah P w K mg base cv 5 "letter_at" 2 (bG):=
 ay (N:=lO) (ps:=l8) T sA (fun _ _ _ _ _ _ us hl=>match us,hl with | [_,_],_=>rfl) fun bu A outer s H E hr=>
  (ag (da (aO bC (hr.mono (by decide)) rfl aP (aa (ab (pv 0)) ae) rfl)) (ag (da (aO tj (hr.mono (by decide)) rfl aP (aa (ab (pv 0)) (aa (ab (pv 1)) ae)) rfl)) (ao (az (aO b_ (hr.mono (by decide)) rfl aP (aa (ab (pv 0)) (aa (ab (pv 1)) ae)) rfl)))))
abbrev fT:Stmt:=top 30
def jc:List Str:=["board","ways","found","seen","cell","patch"]
def je:List Str:=["board","ways"]
theorem cR:FnScope jc je (af fT):=⟨rfl,rfl,rfl,by decide+kernel,rfl,by decide+kernel,by decide+kernel⟩
theorem n8(B:Bl K mg base cv cA Cp)(el:ah P w K mg base cv 2 "all_cells" 1 bF)(qW:ah P w K mg base cv 4 "steps_back" 3 cj)(qS:ah P w K mg base cv 1 "keyed" 1 fq)(T:bj K mg "all_patches" fT f):ah P w K mg base cv 5 "all_patches" 2 (bo):=
 ay (N:=jc) (ps:=je) T cR (fun _ _ _ _ _ _ us hl=>match us,hl with | [_,_],_=>rfl) fun bu A outer s H E hr=>
  (ag (gA cR.nd rfl (by first | exact .inl rfl | exact .inr rfl)) (ag (j7 cR.nd rfl (by first | exact .inl rfl | exact .inr rfl)) (ag (cW (bW PassesOwn.never rfl (b7 (aO el (hr.mono (by decide)) rfl cy (aa (ab (pv 0)) ae) rfl)) (bc cR.nd rfl (by first | exact .inl rfl | exact .inr rfl)) b8 (br (ao (bx (Bn (qx hr.units (ab (pv 4)) (ab (pv 3)))) (ag (aR cR.nd rfl (by first | exact .inl rfl | exact .inr rfl) (DB rfl rfl B.sorted rfl (aa (aO qW (hr.mono (by decide)) rfl cy (aa (ab (pv 0)) (aa (ab (pv 4)) (aa (ab (pv 1)) ae))) rfl) ae))) (ag (iX (pv 2) (ab (pv 5))) (ao (DX hr.units (pv 3) (aO qS (hr.mono (by decide)) rfl cy (aa (ab (pv 5)) ae) rfl) ⟨rfl,rfl,rfl,rfl⟩)))) aZ))))) (ao (dO (i:=2) (az (ab (pv 2))))))))
abbrev fj:Stmt:=top 38
def g_:List Str:=["board","ways","least"]
def ij:List Str:=["board","ways","least"]
theorem mK:FnScope g_ ij (af fj):=⟨rfl,rfl,rfl,by decide+kernel,rfl,by decide+kernel,by decide+kernel⟩
theorem mF(B:Bl K mg base cv cA Cp)(bC:ah P w K mg base cv 4 "need_board" 1 aY)(eo:ah P w K mg base cv 2 "need_ways" 1 cb)(dY:ah P w K mg base cv 1 "is_whole" 1 a5)(T:bj K mg "need_melting" fj f):ah P w K mg base cv 5 "need_melting" 3 (bq):=
 ay (N:=g_) (ps:=ij) T mK (fun _ _ _ _ _ _ us hl=>match us,hl with | [_,_,_],_=>rfl) fun bu A outer s H E hr=>
  (ag (da (aO bC (hr.mono (by decide)) rfl aP (aa (ab (pv 0)) ae) rfl)) (ag (da (aO eo (hr.mono (by decide)) rfl aP (aa (ab (pv 1)) ae) rfl)) (ao (bx (PDW.t (gz (cV (c_ (aO dY (hr.mono (by decide)) rfl aP (aa (ab (pv 2)) ae) rfl))) (eK (cV (wq lW lW av (ab (pv 2)) (rY rfl B.GREATEST_LEAST)))))) (ao iY) aZ))))
abbrev lg:Stmt:=top 32
def qg:List Str:=["board","ways"]
def qp:List Str:=["board","ways"]
theorem wz:FnScope qg qp (af lg):=⟨rfl,rfl,rfl,by decide+kernel,rfl,by decide+kernel,by decide+kernel⟩
theorem wa(B:Bl K mg base cv cA Cp)(bC:ah P w K mg base cv 4 "need_board" 1 aY)(eo:ah P w K mg base cv 2 "need_ways" 1 cb)(cY:ah P w K mg base cv 5 "all_patches" 2 bo)(T:bj K mg "patches" lg f):ah P w K mg base cv 6 "patches" 2 (bN):=
 ay (N:=qg) (ps:=qp) T wz (fun _ _ _ _ _ _ us hl=>match us,hl with | [_,_],_=>rfl) fun bu A outer s H E hr=>
  (ag (da (aO bC (hr.mono (by decide)) rfl aP (aa (ab (pv 0)) ae) rfl)) (ag (da (aO eo (hr.mono (by decide)) rfl aP (aa (ab (pv 1)) ae) rfl)) (ao (az (aO cY (hr.mono (by decide)) rfl aP (aa (ab (pv 0)) (aa (ab (pv 1)) ae)) rfl)))))
abbrev jC:Stmt:=top 33
def nW:List Str:=["board","ways"]
def oa:List Str:=["board","ways"]
theorem uM:FnScope nW oa (af jC):=⟨rfl,rfl,rfl,by decide+kernel,rfl,by decide+kernel,by decide+kernel⟩
theorem uu(B:Bl K mg base cv cA Cp)(bC:ah P w K mg base cv 4 "need_board" 1 aY)(eo:ah P w K mg base cv 2 "need_ways" 1 cb)(cY:ah P w K mg base cv 5 "all_patches" 2 bo)(T:bj K mg "how_many" jC f):ah P w K mg base cv 6 "how_many" 2 (bw):=
 ay (N:=nW) (ps:=oa) T uM (fun _ _ _ _ _ _ us hl=>match us,hl with | [_,_],_=>rfl) fun bu A outer s H E hr=>
  (ag (da (aO bC (hr.mono (by decide)) rfl aP (aa (ab (pv 0)) ae) rfl)) (ag (da (aO eo (hr.mono (by decide)) rfl aP (aa (ab (pv 1)) ae) rfl)) (ao (az (bD rfl B.len (aa (aO cY (hr.mono (by decide)) rfl aP (aa (ab (pv 0)) (aa (ab (pv 1)) ae)) rfl) ae))))))
abbrev fL:Stmt:=top 40
def fE:List Str:=["board","ways","least","found","lengths","number","other"]
def lX:List Str:=["board","ways","least"]
theorem dS:FnScope fE lX (af fL):=⟨rfl,rfl,rfl,by decide+kernel,rfl,by decide+kernel,by decide+kernel⟩
set_option maxHeartbeats 4000000 in
theorem rJ(B:Bl K mg base cv cA Cp)(cY:ah P w K mg base cv 5 "all_patches" 2 bo)(qU:ah P w K mg base cv 4 "melts_into" 3 dE)(m7:ah P w K mg base cv 2 "with_letters" 3 b6)(b_:ah P w K mg base cv 1 "letter_of" 2 aL)(T:bj K mg "after_one" fL f):ah P w K mg base cv 6 "after_one" 3 (a8):=
 ay (N:=fE) (ps:=lX) T dS (fun _ _ _ _ _ _ us hl=>match us,hl with | [_,_,_],_=>rfl) fun bu A outer s H E hr=>
  (ag (aR dS.nd rfl (by first | exact .inl rfl | exact .inr rfl) (aO cY (hr.mono (by decide)) rfl aP (aa (ab (pv 0)) (aa (ab (pv 1)) ae)) rfl)) (ag (eu (tn:=["patch"]) (n:=0) dS.nd rfl (by first | exact .inl rfl | exact .inr rfl) (bX (N:=fE) (osc:=(af fL)) rfl rfl (by decide+kernel)) rfl rfl (b7 (ab (pv 3))) (fun _ _ _ _ _ _ _=>dU (show List.Nodup (((["patch"]:List Str))++dm ["patch"] fE) by decide+kernel) rfl rfl) (fun _ _ _ _ _ _=>eA) (fun _ _ _ _ _ _=>(bD rfl B.len (aa (ab (pv 0)) ae)))) (ag (bx (PDW.t (gz (xO hr.units (bD rfl B.len (aa (ab (pv 3)) ae)) av) (eK (BD (r0 rfl rfl B.min rfl (aa (ab (pv 4)) ae)) (ab (pv 2)))))) (ao (az r6)) aZ) (ag (aR dS.nd rfl (by first | exact .inl rfl | exact .inr rfl) (Dz (ab (pv 4)) (aa (r0 rfl rfl B.min rfl (aa (ab (pv 4)) ae)) ae))) (ag (aR dS.nd rfl (by first | exact .inl rfl | exact .inr rfl) (aO qU (hr.mono (by decide)) rfl aP (aa (ab (pv 0)) (aa (ab (pv 3)) (aa (ab (pv 5)) ae))) rfl)) (ao (az (aO m7 (hr.mono (by decide)) rfl aP (aa (ab (pv 0)) (aa (fb (ab (pv 3)) (ab (pv 5))) (aa (aO b_ (hr.mono (by decide)) rfl aP (aa (ab (pv 0)) (aa (fb (fb (ab (pv 3)) (ab (pv 6))) av) ae)) rfl) ae))) rfl))))))))
abbrev ix:Stmt:=top 41
def lK:List Str:=["board","ways","least","told","now"]
def lZ:List Str:=["board","ways","least"]
theorem eM:FnScope lK lZ (af ix):=⟨rfl,rfl,rfl,by decide+kernel,rfl,by decide+kernel,by decide+kernel⟩
theorem rL(B:Bl K mg base cv cA Cp)(gT:ah P w K mg base cv 6 "after_one" 3 a8)(T:bj K mg "all_steps" ix f):ah P w K mg base cv 7 "all_steps" 3 (bP):=
 ay (N:=lK) (ps:=lZ) T eM (fun _ _ _ _ _ _ us hl=>match us,hl with | [_,_,_],_=>rfl) fun bu A outer s H E hr=>
  (ag (gA eM.nd rfl (by first | exact .inl rfl | exact .inr rfl)) (ag (aR eM.nd rfl (by first | exact .inl rfl | exact .inr rfl) (ab (pv 0))) (ag (cW (qw PassesOwn.never (xP (ab (pv 4)) r6) (ag (iX (pv 3) (ab (pv 4))) (ao (aR eM.nd rfl (by first | exact .inl rfl | exact .inr rfl) (aO gT (hr.mono (by decide)) rfl cy (aa (ab (pv 4)) (aa (ab (pv 1)) (aa (ab (pv 2)) ae))) rfl)))))) (ao (dO (i:=3) (az (ab (pv 3))))))))
abbrev fU:Stmt:=top 42
def jd:List Str:=["board","ways","least"]
def jf:List Str:=["board","ways","least"]
theorem oH:FnScope jd jf (af fU):=⟨rfl,rfl,rfl,by decide+kernel,rfl,by decide+kernel,by decide+kernel⟩
theorem n9(B:Bl K mg base cv cA Cp)(cK:ah P w K mg base cv 5 "need_melting" 3 bq)(gT:ah P w K mg base cv 6 "after_one" 3 a8)(T:bj K mg "melted_once" fU f):ah P w K mg base cv 7 "melted_once" 3 (bH):=
 ay (N:=jd) (ps:=jf) T oH (fun _ _ _ _ _ _ us hl=>match us,hl with | [_,_,_],_=>rfl) fun bu A outer s H E hr=>
  (ag (da (aO cK (hr.mono (by decide)) rfl aP (aa (ab (pv 0)) (aa (ab (pv 1)) (aa (ab (pv 2)) ae))) rfl)) (ao (az (aO gT (hr.mono (by decide)) rfl aP (aa (ab (pv 0)) (aa (ab (pv 1)) (aa (ab (pv 2)) ae))) rfl))))
abbrev oF:Stmt:=top 43
def uc:List Str:=["board","ways","least"]
def uB:List Str:=["board","ways","least"]
theorem zl:FnScope uc uB (af oF):=⟨rfl,rfl,rfl,by decide+kernel,rfl,by decide+kernel,by decide+kernel⟩
theorem yY(B:Bl K mg base cv cA Cp)(cK:ah P w K mg base cv 5 "need_melting" 3 bq)(gU:ah P w K mg base cv 7 "all_steps" 3 bP)(T:bj K mg "melted" oF f):ah P w K mg base cv 8 "melted" 3 (dD):=
 ay (N:=uc) (ps:=uB) T zl (fun _ _ _ _ _ _ us hl=>match us,hl with | [_,_,_],_=>rfl) fun bu A outer s H E hr=>
  (ag (da (aO cK (hr.mono (by decide)) rfl aP (aa (ab (pv 0)) (aa (ab (pv 1)) (aa (ab (pv 2)) ae))) rfl)) (ao (az (fb (aO gU (hr.mono (by decide)) rfl aP (aa (ab (pv 0)) (aa (ab (pv 1)) (aa (ab (pv 2)) ae))) rfl) (kR av)))))
abbrev jF:Stmt:=top 44
def nZ:List Str:=["board","ways","least"]
def oj:List Str:=["board","ways","least"]
theorem uQ:FnScope nZ oj (af jF):=⟨rfl,rfl,rfl,by decide+kernel,rfl,by decide+kernel,by decide+kernel⟩
theorem uy(B:Bl K mg base cv cA Cp)(cK:ah P w K mg base cv 5 "need_melting" 3 bq)(gU:ah P w K mg base cv 7 "all_steps" 3 bP)(T:bj K mg "steps_of" jF f):ah P w K mg base cv 8 "steps_of" 3 (dh):=
 ay (N:=nZ) (ps:=oj) T uQ (fun _ _ _ _ _ _ us hl=>match us,hl with | [_,_,_],_=>rfl) fun bu A outer s H E hr=>
  (ag (da (aO cK (hr.mono (by decide)) rfl aP (aa (ab (pv 0)) (aa (ab (pv 1)) (aa (ab (pv 2)) ae))) rfl)) (ao (az (aO gU (hr.mono (by decide)) rfl aP (aa (ab (pv 0)) (aa (ab (pv 1)) (aa (ab (pv 2)) ae))) rfl))))
abbrev au:Stmt:=top 49
def aM:List Str:=["_law_script","_law_board_here","_law_ways","_law_least","_law_rows","_law_one","_law_other","_law_gone","_law_sizes","_law_last","_law_small","_law_less"]
def kN:List Str:=["_law_script"]
theorem bA:FnScope aM kN (af au):=⟨rfl,rfl,rfl,by decide+kernel,rfl,by decide+kernel,by decide+kernel⟩
set_option maxHeartbeats 4000000 in
theorem sG(B:Bl K mg base cv cA Cp)(gW:ah P w K mg base cv 3 "_law_board" 3 er){bu:Value}{A:Around}{outer:List Env}{s:Shared}{H:Hp}{E:XK}(hr:Room 8 (A.deeper (envOfC "law" (af au) s.heap.objs.size f bu))):
 Box (gS (dW (kq P w cv) P w K mg base aM "law" (af au) f bu A outer s H E) (fun n H'=>E (cv n) none H') ((aW au).getD 0 (.Pass ⟨0,0,0,0⟩)) mi):=
 ⟨(aR bA.nd rfl (by first | exact .inl rfl | exact .inr rfl) (aO gW (hr.mono (by decide)) rfl aP (aa (ab (pv 0)) (aa av (aa av ae))) rfl))⟩
set_option maxHeartbeats 4000000 in
theorem sH(B:Bl K mg base cv cA Cp)(bp:ah P w K mg base cv 2 "_law_drawn" 3 aF){bu:Value}{A:Around}{outer:List Env}{s:Shared}{H:Hp}{E:XK}(hr:Room 8 (A.deeper (envOfC "law" (af au) s.heap.objs.size f bu))):
 Box (gS (dW (kq P w cv) P w K mg base aM "law" (af au) f bu A outer s H E) (fun n H'=>E (cv n) none H') ((aW au).getD 1 (.Pass ⟨0,0,0,0⟩)) mj):=
 ⟨(aR bA.nd rfl (by first | exact .inl rfl | exact .inr rfl) (fb (kP (aa av (aa av ae))) (aO bp (hr.mono (by decide)) rfl aP (aa (ab (pv 0)) (aa av (aa av ae))) rfl)))⟩
set_option maxHeartbeats 4000000 in
theorem sI(B:Bl K mg base cv cA Cp)(bp:ah P w K mg base cv 2 "_law_drawn" 3 aF){bu:Value}{A:Around}{outer:List Env}{s:Shared}{H:Hp}{E:XK}(hr:Room 8 (A.deeper (envOfC "law" (af au) s.heap.objs.size f bu))):
 Box (gS (dW (kq P w cv) P w K mg base aM "law" (af au) f bu A outer s H E) (fun n H'=>E (cv n) none H') ((aW au).getD 2 (.Pass ⟨0,0,0,0⟩)) ml):=
 ⟨(aR bA.nd rfl (by first | exact .inl rfl | exact .inr rfl) (cu av (aO bp (hr.mono (by decide)) rfl aP (aa (ab (pv 0)) (aa av (aa av ae))) rfl)))⟩
set_option maxHeartbeats 4000000 in
theorem sJ(B:Bl K mg base cv cA Cp)(d3:ah P w K mg base cv 8 "steps_of" 3 dh){bu:Value}{A:Around}{outer:List Env}{s:Shared}{H:Hp}{E:XK}(hr:Room 8 (A.deeper (envOfC "law" (af au) s.heap.objs.size f bu))):
 Box (gS (dW (kq P w cv) P w K mg base aM "law" (af au) f bu A outer s H E) (fun n H'=>E (cv n) none H') ((aW au).getD 3 (.Pass ⟨0,0,0,0⟩)) mm):=
 ⟨(aR bA.nd rfl (by first | exact .inl rfl | exact .inr rfl) (aO d3 (hr.mono (by decide)) rfl aP (aa (ab (pv 1)) (aa (ab (pv 2)) (aa (ab (pv 3)) ae))) rfl))⟩
set_option maxHeartbeats 4000000 in
theorem sL(B:Bl K mg base cv cA Cp)(dz:ah P w K mg base cv 8 "melted" 3 dD){bu:Value}{A:Around}{outer:List Env}{s:Shared}{H:Hp}{E:XK}(hr:Room 8 (A.deeper (envOfC "law" (af au) s.heap.objs.size f bu))):
 Box (gS (dW (kq P w cv) P w K mg base aM "law" (af au) f bu A outer s H E) (fun n H'=>E (cv n) none H') ((aW au).getD 4 (.Pass ⟨0,0,0,0⟩)) mn):=
 ⟨(bx (PDW.t (gz (me hr.units (fb (ab (pv 4)) av) (ab (pv 1))) (eK (me hr.units (fb (ab (pv 4)) (kR av)) (aO dz (hr.mono (by decide)) rfl aP (aa (ab (pv 1)) (aa (ab (pv 2)) (aa (ab (pv 3)) ae))) rfl))))) (ao (az fI)) aZ)⟩
set_option maxHeartbeats 4000000 in
theorem sM(B:Bl K mg base cv cA Cp)(cC:ah P w K mg base cv 7 "melted_once" 3 bH){bu:Value}{A:Around}{outer:List Env}{s:Shared}{H:Hp}{E:XK}(hr:Room 8 (A.deeper (envOfC "law" (af au) s.heap.objs.size f bu))):
 Box (gS (dW (kq P w cv) P w K mg base aM "law" (af au) f bu A outer s H E) (fun n H'=>E (cv n) none H') ((aW au).getD 5 (.Pass ⟨0,0,0,0⟩)) mq):=
 ⟨(bx (xP (aO cC (hr.mono (by decide)) rfl aP (aa (fb (ab (pv 4)) (kR av)) (aa (ab (pv 2)) (aa (ab (pv 3)) ae))) rfl) r6) (ao (az fI)) aZ)⟩
set_option maxHeartbeats 4000000 in
theorem sN(B:Bl K mg base cv cA Cp)(cC:ah P w K mg base cv 7 "melted_once" 3 bH)(bR:ah P w K mg base cv 6 "how_many" 2 bw)(dZ:ah P w K mg base cv 6 "patches" 2 bN)(qR:ah P w K mg base cv 5 "cells" 1 iN)(fm:ah P w K mg base cv 5 "letter_at" 2 bG){bu:Value}{A:Around}{outer:List Env}{s:Shared}{H:Hp}{E:XK}(hr:Room 8 (A.deeper (envOfC "law" (af au) s.heap.objs.size f bu))):
 Box (gS (dW (kq P w cv) P w K mg base aM "law" (af au) f bu A outer s H E) (fun n H'=>E (cv n) none H') ((aW au).getD 6 (.Pass ⟨0,0,0,0⟩)) mr):=
 ⟨(cW (bW PassesOwn.never rfl (DH rfl B.zip (aa (ab (pv 4)) (aa (Jf (ab (pv 4)) (Bm av) Bj) ae))) (wm rfl (gf (bc bA.nd rfl (by first | exact .inl rfl | exact .inr rfl)) (gf (bc bA.nd rfl (by first | exact .inl rfl | exact .inr rfl)) r_))) (sf (is:=[5,6])) (br (ag (bx (me hr.units (aO cC (hr.mono (by decide)) rfl cy (aa (ab (pv 5)) (aa (ab (pv 2)) (aa (ab (pv 3)) ae))) rfl) (ab (pv 6))) (ao (az fI)) aZ) (ag (bx (BD (aO bR (hr.mono (by decide)) rfl cy (aa (ab (pv 6)) (aa (ab (pv 2)) ae)) rfl) (aO bR (hr.mono (by decide)) rfl cy (aa (ab (pv 5)) (aa (ab (pv 2)) ae)) rfl)) (ao (az fI)) aZ) (ag (eu (tn:=["_law_cell_here"]) (n:=0) bA.nd rfl (by first | exact .inl rfl | exact .inr rfl) (bX (N:=aM) (osc:=(af au)) rfl rfl (by decide+kernel)) rfl rfl (b7 (aO qR (hr.mono (by decide)) rfl cy (aa (ab (pv 5)) ae) rfl)) (fun _ _ _ _ _ _ _=>dU (show List.Nodup (((["_law_cell_here"]:List Str))++dm ["_law_cell_here"] aM) by decide+kernel) rfl rfl) (fun _ _ _ _ _ _=>(oT (me hr.units (aO fm (hr.mono (by decide)) rfl cy (aa (ab (pv 6)) (aa (ab (pv 0)) ae)) rfl) (aO fm (hr.mono (by decide)) rfl cy (aa (ab (pv 7)) (aa (ab (pv 0)) ae)) rfl)))) (fun _ _ _ _ _ _=>(ab (pv 0)))) (ag (eu (tn:=["_law_patch"]) (n:=0) bA.nd rfl (by first | exact .inl rfl | exact .inr rfl) (bX (N:=aM) (osc:=(af au)) rfl rfl (by decide+kernel)) rfl rfl (b7 (aO dZ (hr.mono (by decide)) rfl cy (aa (ab (pv 5)) (aa (ab (pv 2)) ae)) rfl)) (fun _ _ _ _ _ _ _=>dU (show List.Nodup (((["_law_patch"]:List Str))++dm ["_law_patch"] aM) by decide+kernel) rfl rfl) (fun _ _ _ _ _ _=>eA) (fun _ _ _ _ _ _=>(bD rfl B.len (aa (ab (pv 0)) ae)))) (ag (bx (PDW.t (gz (zg hr.units (ab (pv 7)) (aO dZ (hr.mono (by decide)) rfl cy (aa (ab (pv 5)) (aa (ab (pv 2)) ae)) rfl)) (eK (me hr.units (bD rfl B.len (aa (ab (pv 7)) ae)) (r0 rfl rfl B.min rfl (aa (ab (pv 8)) ae)))))) (ao (az fI)) aZ) (ao (bx (BD (bD rfl B.len (aa (ab (pv 7)) ae)) (ab (pv 3))) (ao (az fI)) aZ))))))))))⟩
set_option maxHeartbeats 4000000 in
theorem sO(B:Bl K mg base cv cA Cp){bu:Value}{A:Around}{outer:List Env}{s:Shared}{H:Hp}{E:XK}(hr:Room 8 (A.deeper (envOfC "law" (af au) s.heap.objs.size f bu))):
 Box (gS (dW (kq P w cv) P w K mg base aM "law" (af au) f bu A outer s H E) (fun n H'=>E (cv n) none H') ((aW au).getD 7 (.Pass ⟨0,0,0,0⟩)) mv):=
 ⟨(aR bA.nd rfl (by first | exact .inl rfl | exact .inr rfl) (fb (ab (pv 4)) (kR av)))⟩
set_option maxHeartbeats 4000000 in
theorem sP(B:Bl K mg base cv cA Cp)(dZ:ah P w K mg base cv 6 "patches" 2 bN){bu:Value}{A:Around}{outer:List Env}{s:Shared}{H:Hp}{E:XK}(hr:Room 8 (A.deeper (envOfC "law" (af au) s.heap.objs.size f bu))):
 Box (gS (dW (kq P w cv) P w K mg base aM "law" (af au) f bu A outer s H E) (fun n H'=>E (cv n) none H') ((aW au).getD 8 (.Pass ⟨0,0,0,0⟩)) mw):=
 ⟨(eu (tn:=["_law_patch"]) (n:=0) bA.nd rfl (by first | exact .inl rfl | exact .inr rfl) (bX (N:=aM) (osc:=(af au)) rfl rfl (by decide+kernel)) rfl rfl (b7 (aO dZ (hr.mono (by decide)) rfl aP (aa (ab (pv 9)) (aa (ab (pv 2)) ae)) rfl)) (fun _ _ _ _ _ _ _=>dU (show List.Nodup (((["_law_patch"]:List Str))++dm ["_law_patch"] aM) by decide+kernel) rfl rfl) (fun _ _ _ _ _ _=>(oT (E3 (bD rfl B.len (aa (ab (pv 0)) ae)) (ab (pv 4))))) (fun _ _ _ _ _ _=>(ab (pv 0))))⟩
set_option maxHeartbeats 4000000 in
theorem sQ(B:Bl K mg base cv cA Cp)(bR:ah P w K mg base cv 6 "how_many" 2 bw){bu:Value}{A:Around}{outer:List Env}{s:Shared}{H:Hp}{E:XK}(hr:Room 8 (A.deeper (envOfC "law" (af au) s.heap.objs.size f bu))):
 Box (gS (dW (kq P w cv) P w K mg base aM "law" (af au) f bu A outer s H E) (fun n H'=>E (cv n) none H') ((aW au).getD 9 (.Pass ⟨0,0,0,0⟩)) mx):=
 ⟨(bx (PDW.t (DI (me hr.units (ab (pv 10)) (kP ae)) (Bo (Jm (aO bR (hr.mono (by decide)) rfl aP (aa (ab (pv 9)) (aa (ab (pv 2)) ae)) rfl) av)))) (ao (az fI)) aZ)⟩
set_option maxHeartbeats 4000000 in
theorem pD(B:Bl K mg base cv cA Cp)(dz:ah P w K mg base cv 8 "melted" 3 dD){bu:Value}{A:Around}{outer:List Env}{s:Shared}{H:Hp}{E:XK}(hr:Room 8 (A.deeper (envOfC "law" (af au) s.heap.objs.size f bu))):
 Box (gS (dW (kq P w cv) P w K mg base aM "law" (af au) f bu A outer s H E) (fun n H'=>E (cv n) none H') ((aW au).getD 10 (.Pass ⟨0,0,0,0⟩)) kl):=
 ⟨(cW (bW PassesOwn.never rfl (jA rfl B.range (aa av (aa (cu (ab (pv 3)) av) ae))) (bc bA.nd rfl (by first | exact .inl rfl | exact .inr rfl)) b8 (br (ao (bx (me hr.units (aO dz (hr.mono (by decide)) rfl cy (aa (ab (pv 9)) (aa (ab (pv 2)) (aa (ab (pv 11)) ae))) rfl) (ab (pv 9))) (ao (az fI)) aZ)))))⟩
set_option maxHeartbeats 4000000 in
theorem pE(B:Bl K mg base cv cA Cp)(d3:ah P w K mg base cv 8 "steps_of" 3 dh)(dz:ah P w K mg base cv 8 "melted" 3 dD)(bR:ah P w K mg base cv 6 "how_many" 2 bw){bu:Value}{A:Around}{outer:List Env}{s:Shared}{H:Hp}{E:XK}(hr:Room 8 (A.deeper (envOfC "law" (af au) s.heap.objs.size f bu))):
 Box (gS (dW (kq P w cv) P w K mg base aM "law" (af au) f bu A outer s H E) (fun n H'=>E (cv n) none H') ((aW au).getD 11 (.Pass ⟨0,0,0,0⟩)) km):=
 ⟨(az (om (qr hr.units (aO d3 (hr.mono (by decide)) rfl aP (aa (ab (pv 1)) (aa (ab (pv 2)) (aa av ae))) rfl) (kP (aa (ab (pv 1)) ae))) (r9 (qr hr.units (aO bR (hr.mono (by decide)) rfl aP (aa (aO dz (hr.mono (by decide)) rfl aP (aa (ab (pv 1)) (aa (ab (pv 2)) (aa av ae))) rfl) (aa (ab (pv 2)) ae)) rfl) av))))⟩
set_option maxHeartbeats 4000000 in
theorem uq{fd:FuncData}(B:Bl K mg base cv cA Cp)(gW:ah P w K mg base cv 3 "_law_board" 3 er)(d3:ah P w K mg base cv 8 "steps_of" 3 dh)(bp:ah P w K mg base cv 2 "_law_drawn" 3 aF)(cC:ah P w K mg base cv 7 "melted_once" 3 bH)(dz:ah P w K mg base cv 8 "melted" 3 dD)(bR:ah P w K mg base cv 6 "how_many" 2 bw)(dZ:ah P w K mg base cv 6 "patches" 2 bN)(qR:ah P w K mg base cv 5 "cells" 1 iN)(fm:ah P w K mg base cv 5 "letter_at" 2 bG)(Fn:Fun K "law" "law" au f fd):FnOk P w K mg base (kq P w cv) 9 f fd kN (Hf K cv 1 iP):=
 HJ (N:=aM) (ps:=kN) (τ:=lr) Fn bA fun bu A outer s H E hr=>by
  obtain⟨O2⟩:Box (PSDs (dW (kq P w cv) P w K mg base aM "law" (af au) f bu A outer s H E) (fun n H'=>E (cv n) none H') (aW au) lr):=(eU (sG B gW hr) (eU (sH B bp hr) (eU (sI B bp hr) (eU (sJ B d3 hr) (eU (sL B dz hr) (eU (sM B cC hr) (eU (sN B cC bR dZ qR fm hr) (eU (sO B hr) (eU (sP B dZ hr) (eU (sQ B bR hr) (eU (pD B dz hr) (Fi (pE B d3 dz bR hr)))))))))))))
  assumption
end
end K1
namespace K1
open PySem L2 L3
theorem AR{ds:List D}(h:ds.length≤lim):fC ds=M.ret (.lst ds):=if_pos h
theorem dq:lim=4096:=rfl
theorem du{α:Type}{xs:List α}{i:Nat}{x:α}(h:xs[i]? =some x):L2.atI xs (i:Int)=some x:=by
 obtain⟨hi,e⟩:=List.getElem?_eq_some_iff.mp h
 unfold L2.atI AI
 rw[if_pos (Int.natCast_nonneg i),if_pos (by exact Int.ofNat_lt.mpr hi)]
 exact h
theorem ai{m:Nat}{g:List D→M D}{δs:DA}{ρ:aX}{ds:List D}(h:δs ρ=M.ret ds)(hl:ds.length=m):aj m g δs ρ=g ds:=by
 unfold aj
 rw[h]
 exact if_pos hl
theorem aT{a:DE}{r:DA}{ρ:aX}{x:D}{xs:List D}(h1:a ρ=M.ret x)(h2:r ρ=M.ret xs):aC a r ρ=M.ret (x::xs):=by
 unfold aC
 rw[h1,aq,h2]
 rfl
theorem aG{g:D→D→M D}{a b:DE}{ρ:aX}{x y:D}(h1:a ρ=M.ret x)(h2:b ρ=M.ret y):d2 g a b ρ=g x y:=by
 unfold d2
 rw[h1,aq,h2]
 rfl
theorem bY{g:List D→M D}{a:DA}{ρ:aX}{xs:List D}(h:a ρ=M.ret xs):dA g a ρ=g xs:=by
 unfold dA
 rw[h]
 rfl
theorem fZ{i j:Int}(h:0<j):jP (.int i) (.int j)=M.ret (.int (i % j)):=by
 show (if decide (0<j)=true then _ else _)=_
 rw[if_pos (decide_eq_true h)]
theorem jO{i j:Int}(h:0<j)(h2:j<1073741824):pb (.int i) (.int j)=M.ret (.int (i / j)):=by
 show (if decide (0<j∧j<1073741824)=true then _ else _)=_
 rw[if_pos (decide_eq_true ⟨h,h2⟩)]
theorem f6{i j:Int}(h:(-(2 ^ 64)<i∧i<2 ^ 64)∨(-(2 ^ 64)<j∧j<2 ^ 64)):gZ (.int i) (.int j)=M.ret (.int (i*j)):=by
 show (if decide _=true then _ else _)=_
 rw[if_pos (decide_eq_true h)]
theorem fY{i j:Int}:cO (.int i) (.int j)=M.ret (.int (i+j)):=rfl
theorem Ah{i j:Int}:nj (.int i) (.int j)=M.ret (.int (i - j)):=rfl
theorem zP(ns:List Int)(hl:ns.length≤63)(k:Nat):∃v,eY [.scr ns, .int (k:Int)]=M.ret (.int v):=by
 cases ns with
 |nil=>
  refine⟨7*(k:Int),?_⟩
  rfl
 |cons n r=>
  have hp:0<(n::r).length:=Nat.succ_pos _
  generalize e:(n::r)=ns at*
  have he:lA 6 (.scr ns) (.lst [])=some false:=by subst e;rfl
  obtain⟨y,hy⟩:∃y,ns[k % ns.length]? =some y:=⟨_,List.getElem?_eq_getElem (Nat.mod_lt _ hp)⟩
  have MM:(0:Int)<(ns.length:Int):=by omega
  have h1:jP (.int (k:Int)) (.int (ns.length:Int))=M.ret (.int ((k % ns.length:Nat):Int)):=fZ MM
  have h2:pb (.int (k:Int)) (.int (ns.length:Int))=M.ret (.int ((k:Int) / (ns.length:Int))):=jO MM (by omega)
  have h3:Ae (.scr ns) (.int ((k % ns.length:Nat):Int))=M.ret (.int y):=by
   show (match L2.atI ns ((k % ns.length:Nat):Int) with | some n=>M.ret (D.int n) | none=>M.stuck)=_
   rw[du hy]
  have h4:gZ (.int 6553) (.int ((k:Int) / (ns.length:Int)))=M.ret (.int (6553*((k:Int) / (ns.length:Int)))):=f6 (.inl ⟨by decide,by decide⟩)
  refine⟨y+6553*((k:Int) / (ns.length:Int)),?_⟩
  simp only[eY,o3,bT,aA,fK,a_,cw,b9,d2,dV,dC,dA,aC,aN,fC,a6,zB,mz,he,aq,h1,h2,h3,h4,List.map_cons,List.map_nil,List.cons_append,List.nil_append,List.length_cons,List.length_nil,List.getElem?_cons_zero,List.getElem?_cons_succ,dq,Nat.reduceAdd,Nat.zero_le,if_true,Bool.false_eq_true,if_false,cO,gI]
theorem eQ(ns:List Int)(hl:ns.length≤63)(k m:Nat)(hm:0<m):∃v:Nat,v<m∧aF [.scr ns, .int (k:Int), .int (m:Int)]=M.ret (.int (v:Int)):=by
 obtain⟨c,hc⟩:=zP ns hl k
 have b1:=Int.emod_nonneg (c % 2147483563*69069+104723*((k:Int)+1)) (b:=2147483563) (by decide)
 have b2:=Int.emod_lt_of_pos (c % 2147483563*69069+104723*((k:Int)+1)) (b:=2147483563) (by decide)
 generalize hx:(c % 2147483563*69069+104723*((k:Int)+1)) % 2147483563=x at b1 b2
 have b3:=Int.emod_nonneg (x*x+x / 3) (b:=2147483399) (by decide)
 have b4:=Int.emod_lt_of_pos (x*x+x / 3) (b:=2147483399) (by decide)
 generalize hy:(x*x+x / 3) % 2147483399=y at b3 b4
 have m1:gZ (.int (c % 2147483563)) (.int 69069)=_:=f6 (.inr ⟨by decide,by decide⟩)
 have m2:gZ (.int 104723) (.int ((k:Int)+1))=_:=f6 (.inl ⟨by decide,by decide⟩)
 have m3:gZ (.int x) (.int x)=_:=f6 (.inl ⟨by omega,by omega⟩)
 have m4:gZ (.int y) (.int y)=_:=f6 (.inl ⟨by omega,by omega⟩)
 have hM:(0:Int)<(m:Int):=Int.ofNat_lt.mpr hm
 have n1:=Int.emod_nonneg ((y*y+y / 7) % 2147483647 / 11) (b:=(m:Int)) (by omega)
 have n2:=Int.emod_lt_of_pos ((y*y+y / 7) % 2147483647 / 11) hM
 have q1:jP (.int c) (.int 2147483563)=_:=fZ (by decide)
 have q2:jP (.int (c % 2147483563*69069+104723*((k:Int)+1))) (.int 2147483563)=_:=fZ (by decide)
 have q3:pb (.int x) (.int 3)=_:=jO (by decide) (by decide)
 have q4:jP (.int (x*x+x / 3)) (.int 2147483399)=_:=fZ (by decide)
 have q5:pb (.int y) (.int 7)=_:=jO (by decide) (by decide)
 have q6:jP (.int (y*y+y / 7)) (.int 2147483647)=_:=fZ (by decide)
 have q7:pb (.int ((y*y+y / 7) % 2147483647)) (.int 11)=_:=jO (by decide) (by decide)
 have q8:jP (.int ((y*y+y / 7) % 2147483647 / 11)) (.int (m:Int))=_:=fZ hM
 refine⟨((y*y+y / 7) % 2147483647 / 11 % (m:Int)).toNat,by omega,?_⟩
 rw[Int.toNat_of_nonneg n1]
 rw[hx] at q2
 rw[hy] at q4
 simp only[aF,mh,bT,aA,bz,a_,aj,d2,dV,dC,dA,aC,aN,aq,hc,List.map_cons,List.map_nil,List.cons_append,List.nil_append,List.length_cons,List.length_nil,List.getElem?_cons_zero,List.getElem?_cons_succ,List.replicate,List.set_cons_zero,List.set_cons_succ,Nat.reduceAdd,Nat.reduceSub,if_true,fY,m1,m2,m3,m4,q1,q2,q3,q4,q5,q6,q7,q8]
theorem AY{α:Type}(a:α):noex (M.ret a)=M.ret a:=rfl
theorem tN{put:D→aX→Option aX}{body:DS}{I:Nat→aX→Prop}:∀(ds:List D) (i:Nat) (ρ:aX),I i ρ→
 (∀j d,ds[j]? =some d→∀ρ,I (i+j) ρ→∃ρ1 ρ2,put d ρ=some ρ1∧body ρ1=M.ret (.nx ρ2)∧I (i+j+1) ρ2)→∃ρ',forL put body ds ρ=M.ret (.nx ρ')∧I (i+ds.length) ρ'
 |[],i,ρ,h,_=>⟨ρ,rfl,h⟩
 |d::ds,i,ρ,h,step=>by
  obtain⟨ρ1,ρ2,e1,e2,h2⟩:=step 0 d rfl ρ h
  obtain⟨ρ',e3,h3⟩:=tN (I:=I) ds (i+1) ρ2 h2 fun j d' hd ρ hI=>by
   have:=step (j+1) d' hd ρ (by rw[show i+(j+1)=i+1+j by omega];exact hI)
   rw[show i+(j+1)+1=i+1+j+1 by omega] at this
   exact this
  refine⟨ρ',?_,?_⟩
  ·show (match put d ρ with | none=>M.stuck | some ρ1=>body ρ1>>=fun o=>match o with | .nx ρ2=>forL put body ds ρ2 | .rt v=>M.ret (.rt v))=_
   rw[e1]
   show (body ρ1>>=fun o=>match o with | .nx ρ2=>forL put body ds ρ2 | .rt v=>M.ret (.rt v))=_
   rw[e2]
   exact e3
  ·rw[show i+(d::ds).length=i+1+ds.length by simp;omega]
   exact h3
theorem pO{f:D→M (Option D)}{Pr:D→Prop}:∀(ds:List D),(∀d∈ds,∃y,f d=M.ret (some y)∧Pr y)→∃ys,dj f ds=M.ret ys∧ys.length=ds.length∧∀y∈ys,Pr y
 |[],_=>⟨[],rfl,rfl,fun _ h=>by cases h⟩
 |d::ds,h=>by
  obtain⟨y,e,hy⟩:=h d (List.mem_cons_self ..)
  obtain⟨ys,e2,hl,hp⟩:=pO ds fun d' hd=>h d' (List.mem_cons_of_mem _ hd)
  refine⟨y::ys,?_,by simp[hl],fun z hz=>?_⟩
  ·rw[eW,e,aq,e2]
   rfl
  ·cases hz with
   |head=>exact hy
   |tail _ hz=>exact hp z hz
theorem fX{f:D→M (Option D)}{g:D→D}:∀(ds:List D),(∀d∈ds,f d=M.ret (some (g d)))→dj f ds=M.ret (ds.map g)
 |[],_=>rfl
 |d::ds,h=>by
  rw[eW,h d (List.mem_cons_self ..),aq,fX ds fun d' hd=>h d' (List.mem_cons_of_mem _ hd)]
  rfl
def EN(x:Str):Bool:=!(Builtin.Str.occurrences ("abcdef":Str) x 0 ("abcdef":Str).length 1).isEmpty
structure Row (W:Nat) (r:Str):Prop where
 len:r.length=W
 let':∀c∈r.cps.toList,EN ⟨#[c]⟩=true
structure Good (bd:List Str) (W:Nat):Prop where
 r1:1≤bd.length
 r5:bd.length≤5
 w1:1≤W
 w5:W≤5
 rows:∀r∈bd,Row W r
abbrev lE(c:Nat):Prop:=EN ⟨#[c]⟩=true∧c≠101
def JN(r:Str):Prop:=∀c∈r.cps.toList,c≠101
theorem uW:∀(ys:List D),(∀y∈ys,∃c,y= .str ⟨#[c]⟩∧lE c)→∃xs,mM ys=some xs∧xs.length=ys.length∧(xs.map (·.length)).sum=ys.length∧Row ys.length (dB xs)∧JN (dB xs)
 |[],_=>⟨[],rfl,rfl,rfl,⟨rfl,fun c h=>by cases h⟩,fun c h=>by cases h⟩
 |y::ys,h=>by
  obtain⟨c,e,hc⟩:=h y (List.mem_cons_self ..)
  obtain⟨xs,e1,e2,e3,e4,e5⟩:=uW ys fun z hz=>h z (List.mem_cons_of_mem _ hz)
  subst e
  have Ap:∀z,z∈((⟨#[c]⟩:Str)++dB xs).cps.toList→z=c∨z∈(dB xs).cps.toList:=fun z hz=>by
   have:((⟨#[c]⟩:Str)++dB xs).cps= #[c]++(dB xs).cps:=rfl
   rw[this] at hz
   simpa using hz
  refine⟨⟨#[c]⟩::xs,?_,by simp[e2],?_,⟨?_,fun z hz=>?_⟩,fun z hz=>?_⟩
  ·show (mM ys).map _=_
   rw[e1]
   rfl
  ·rw[List.map_cons,List.sum_cons,e3]
   show 1+ys.length=_
   simp
   omega
  ·show ((⟨#[c]⟩:Str)++dB xs).length=_
   rw[iF,e4.len]
   show 1+ys.length=_
   simp
   omega
  ·rcases Ap z hz with rfl | q
   ·exact hc.1
   ·exact e4.let' z q
  ·rcases Ap z hz with rfl | q
   ·exact hc.2
   ·exact e5 z q
theorem BN{lo:Int}{n:Nat}{d:D}(h:d∈gi lo n):∃i:Nat,i<n∧d= .int (lo+(i:Int)):=by
 unfold gi at h
 obtain⟨i,hi,e⟩:=List.mem_map.mp h
 exact⟨i,List.mem_range.mp hi,e.symm⟩
theorem D5{lo:Int}{n j:Nat}{d:D}(h:(gi lo n)[j]? =some d):j<n∧d= .int (lo+(j:Int)):=by
 unfold gi at h
 rw[List.getElem?_map] at h
 by_cases hj:j<n
 ·rw[List.getElem?_range hj] at h
  cases h
  exact⟨hj,rfl⟩
 ·rw[List.getElem?_eq_none (by simpa using hj)] at h
  cases h
theorem iu(lo:Int)(n:Nat):(gi lo n).length=n:=by simp[gi]
abbrev fz(d:D):Option Sl:=some (.fz d)
theorem ky{δe:DE}{ρ:aX}{d:D}:gM 0 cM δe ρ d=(δe (fz d::ρ)>>=fun y=>M.ret (some y)):=rfl
theorem vz{δt:DT}{δe:DE}{ρ:aX}{d:D}:gM 0 δt δe ρ d=(δt (fz d::ρ)>>=fun b=>if b then δe (fz d::ρ)>>=fun y=>M.ret (some y) else M.ret none):=rfl
theorem ak{a b:DS}{ρ ρ':aX}{o:M Out}(h:a ρ=M.ret (.nx ρ'))(h2:b ρ'=o):aA a b ρ=o:=by
 unfold aA
 rw[h]
 exact h2
theorem de{a b:DS}{ρ:aX}{d:D}(h:a ρ=M.ret (.rt d)):aA a b ρ=M.ret (.rt d):=by
 unfold aA
 rw[h]
 rfl
theorem aJ{i:Nat}{δ:DE}{ρ:aX}{d:D}(h:δ ρ=M.ret d):bz i δ ρ=M.ret (.nx (ρ.set i (fz d))):=by
 unfold bz
 rw[h]
 rfl
theorem ez{c:DT}{a b:DS}{ρ:aX}{o:M Out}(h:c ρ=M.ret true)(h2:a ρ=o):fK c a b ρ=o:=by
 unfold fK
 rw[h]
 exact h2
theorem cQ{c:DT}{a b:DS}{ρ:aX}{o:M Out}(h:c ρ=M.ret false)(h2:b ρ=o):fK c a b ρ=o:=by
 unfold fK
 rw[h]
 exact h2
theorem aE{δ:DE}{ρ:aX}{d:D}(h:δ ρ=M.ret d):a_ δ ρ=M.ret (.rt d):=by
 unfold a_
 rw[h]
 rfl
theorem cz{δ:DE}{ρ:aX}{d:D}(h:δ ρ=M.ret d):i9 δ ρ=M.ret (.nx ρ):=by
 unfold i9
 rw[h]
 rfl
theorem aS{n:Nat}{τ:DS}{ds:List D}{d:D}(h:τ (ds.map (fun d=>some (Sl.fz d))++List.replicate (n - ds.length) none)=M.ret (.rt d)):bT n τ ds=M.ret d:=by
 unfold bT
 rw[h]
 rfl
theorem sr{n:Nat}{τ:DS}{ds:List D}{ρ:aX}(h:τ (ds.map (fun d=>some (Sl.fz d))++List.replicate (n - ds.length) none)=M.ret (.nx ρ)):bT n τ ds=M.ret .non:=by
 unfold bT
 rw[h]
 rfl
theorem BP{put:D→aX→Option aX}{δi:DA}{b:DS}{ρ:aX}{ds:List D}{o:Out}(h:δi ρ=M.ret ds)(h2:forL put b ds ρ=M.ret o):noex (d_ put δi b ρ)=M.ret o:=by
 unfold d_
 rw[h,aq,h2]
 rfl
theorem bf{is:List Nat}{τ:DS}{ρ ρ':aX}(h:τ ρ=M.ret (.nx ρ')):cG is τ ρ=M.ret (.nx (fgt is ρ')):=by
 unfold cG
 rw[h]
 rfl
theorem cE{n:Nat}{δi:DA}{δt:DT}{δe:DE}{ρ:aX}{ds ys:List D}(h:δi ρ=M.ret ds)(h2:dj (gM n δt δe ρ) ds=M.ret ys)(h3:ys.length≤lim):bE n δi δt δe ρ=M.ret (.lst ys):=by
 unfold bE
 rw[h,aq,h2,AY,aq,AR h3]
theorem k9{n:Nat}(h:n≤4096):jg [.int (n:Int)]=M.ret (gi 0 n):=by
 show (if -4096≤(n:Int)∧(n:Int)≤4096 then M.ret (gi 0 (n:Int).toNat) else M.stuck)=_
 rw[if_pos ⟨by omega,by omega⟩]
 rfl
structure Alpha (al:Str):Prop where
 pos:0<al.length
 ok:∀c∈al.cps.toList,lE c
theorem Fd:Alpha "ab"∧Alpha "abc"∧Alpha "aab"∧Alpha "fa":=by
 refine⟨⟨by decide+kernel,?_⟩,⟨by decide+kernel,?_⟩,⟨by decide+kernel,?_⟩,⟨by decide+kernel,?_⟩⟩<;>decide+kernel
theorem Af{x:Str}{i:Nat}(h:i<x.length):∃c,c∈x.cps.toList∧x.cps.toList[i]? =some c∧rh (.str x) (.int (i:Int))=M.ret (.str ⟨#[c]⟩):=by
 have h:i<x.cps.toList.length:=by rw[Array.length_toList];exact h
 refine⟨x.cps.toList[i],List.getElem_mem h,List.getElem?_eq_getElem h,?_⟩
 show (match L2.atI x.cps.toList (i:Int) with | some c=>M.ret (D.str ⟨#[c]⟩) | none=>M.stuck)=_
 rw[du (List.getElem?_eq_getElem h)]
abbrev brd(bd:List Str):D:= .tup (bd.map D.str)
abbrev sgn(at' mo:Nat)(ns:List Int)(W:Nat)(al:Str)(bd:List Str)(R:Nat)(x7 x8:Option Sl):aX:=[fz (.scr ns),fz (.int (at':Int)),fz (.int (mo:Int)),fz (.int (R:Int)),fz (.int (W:Int)),fz (.str al),fz (brd bd),x7,x8]
def Nc:DE:=bE 0 (fun ρ=>(aC (dV 4) aN) ρ>>=jg) cM (d2 rh (dV 6) (aj 3 aF (aC (dV 1) (aC (d2 cO (d2 cO (d2 cO (dV 2) (dC (.int 3))) (d2 gZ (dC (.int 7)) (dV 8))) (dV 0)) (aC (dA a6 (aC (dV 6) aN)) aN)))))
theorem zm(at' mo:Nat)(ns:List Int)(hl:ns.length≤63)(al:Str)(ha:Alpha al)(j W R:Nat)(hW:W≤5)(bd:List Str)(x8:Option Sl):
 ∃ys,Nc (sgn at' mo ns W al bd R (fz (.int (0+(j:Int)))) x8)=M.ret (.lst ys)∧ys.length=W∧∀y∈ys,∃c,y= .str ⟨#[c]⟩∧lE c:=by
 obtain⟨ys,e,EL,hp⟩:=pO (f:=gM 0 cM (d2 rh (dV 6) (aj 3 aF (aC (dV 1) (aC (d2 cO (d2 cO (d2 cO (dV 2) (dC (.int 3))) (d2 gZ (dC (.int 7)) (dV 8))) (dV 0)) (aC (dA a6 (aC (dV 6) aN)) aN)))))
  (sgn at' mo ns W al bd R (fz (.int (0+(j:Int)))) x8)) (Pr:=fun y=>∃c,y= .str ⟨#[c]⟩∧lE c) (gi 0 W) fun d hd=>by
  obtain⟨i,hi,rfl⟩:=BN hd
  obtain⟨v,hv,e⟩:=eQ ns hl (at'+3+7*j+i) al.length ha.pos
  obtain⟨c,hc,_,e2⟩:=Af hv
  refine⟨.str ⟨#[c]⟩,?_,c,rfl,ha.ok c hc⟩
  rw[ky]
  have k:(at':Int)+3+7*(0+(j:Int))+(0+(i:Int))=((at'+3+7*j+i:Nat):Int):=by omega
  have m1:gZ (.int 7) (.int (0+(j:Int)))=M.ret (.int (7*(0+(j:Int)))):=f6 (.inl ⟨by decide,by decide⟩)
  simp only[aj,d2,dV,dC,dA,aC,aN,aq,List.length_cons,List.length_nil,List.getElem?_cons_zero,List.getElem?_cons_succ,Nat.reduceAdd,if_true,fY,m1,k,a6,e,e2]
 refine⟨ys,cE (k9 (n:=W) (by omega)) e (by rw[EL,iu,dq];omega),by rw[EL,iu],hp⟩
def Nd:DS:=bz 6 (d2 tP (dV 6) (dA dG (aC (dM AB joinM (dC (.str "")) (aC (dV 8) aN)) aN)))
theorem Cz(at' mo:Nat)(ns:List Int)(W:Nat)(al:Str)(bd:List Str)(R:Nat)(x7:Option Sl)(ys:List D)(hb:bd.length≤5)(hy:ys.length≤5)(s3:∀y∈ys,∃c,y= .str ⟨#[c]⟩∧lE c):
 ∃r,(Row ys.length r∧JN r)∧Nd (sgn at' mo ns W al bd R x7 (fz (.lst ys)))=M.ret (.nx (sgn at' mo ns W al (bd++[r]) R x7 (fz (.lst ys)))):=by
 obtain⟨xs,t1,t2,t3,t4⟩:=uW ys s3
 refine⟨dB xs,t4,?_⟩
 have jn:joinM (.str "") [.lst ys]=M.ret (.str (dB xs)):=by
  show (match mM ys with | some (xs:List Str)=>if ("":Str).length=0∧(xs.map (fun x:Str=>x.length)).sum≤lim then M.ret (D.str (dB xs)) else M.stuck | none=>M.stuck)=_
  rw[t1]
  show (if ("":Str).length=0∧(xs.map (fun x:Str=>x.length)).sum≤lim then M.ret (D.str (dB xs)) else M.stuck)=_
  rw[if_pos ⟨rfl,by rw[t3,dq];omega⟩]
 have ct:tP (brd bd) (.tup [.str (dB xs)])=M.ret (brd (bd++[dB xs])):=by
  show (if (bd.map D.str).length+1≤lim then M.ret (D.tup (bd.map D.str++[.str (dB xs)])) else M.stuck)=_
  rw[if_pos (by rw[List.length_map,dq];omega)]
  simp[brd]
 refine(aJ (d:=brd (bd++[dB xs])) ?_).trans rfl
 simp only[d2,dV,dC,dA,aC,aN,dM,AB,aq,List.getElem?_cons_zero,List.getElem?_cons_succ,if_true,jn,dG,List.length_cons,List.length_nil,dq,Nat.reduceAdd,Nat.reduceLeDiff,ct]
theorem vq(ns:List Int)(hl:ns.length≤63)(at' mo:Nat)(m0:0<mo)(m5:mo≤5):∃bd W,Good bd W∧(∀r∈bd,JN r)∧bd.length≤mo∧W≤mo∧er [.scr ns, .int (at':Int), .int (mo:Int)]=M.ret (brd bd):=by
 obtain⟨r,hr,e1⟩:=eQ ns hl at' mo m0
 obtain⟨c,hc,e2⟩:=eQ ns hl (at'+1) mo m0
 obtain⟨a,ha,e3⟩:=eQ ns hl (at'+2) 4 (by decide)
 obtain⟨al,HR,e4⟩:∃al,Alpha al∧di (.lst [.str "ab", .str "abc", .str "aab", .str "fa"]) (.int (a:Int))=M.ret (.str al):=by
  obtain⟨a1,a2,a3,a4⟩:=Fd
  match a,ha with
  |0,_=>exact⟨_,a1,rfl⟩
  |1,_=>exact⟨_,a2,rfl⟩
  |2,_=>exact⟨_,a3,rfl⟩
  |3,_=>exact⟨_,a4,rfl⟩
 have k1:(1:Int)+(r:Int)=((r+1:Nat):Int):=by omega
 have k2:(1:Int)+(c:Int)=((c+1:Nat):Int):=by omega
 have zC:aF [.scr ns, .int (at':Int), .int (mo:Int)]=M.ret (.int (r:Int)):=e1
 have Ha:aF [.scr ns, .int ((at':Int)+1), .int (mo:Int)]=M.ret (.int (c:Int)):=e2
 have JT:aF [.scr ns, .int ((at':Int)+2), .int 4]=M.ret (.int (a:Int)):=e3
 obtain⟨ρ',f1,bd,f2,f3,f4⟩:=tN (put:=putN 7) (body:=cG [7,8] (aA (bz 8 Nc) Nd))
  (I:=fun i ρ=>∃bd,ρ=sgn at' mo ns (c+1) al bd (r+1) none none∧bd.length=i∧∀z∈bd,Row (c+1) z∧JN z)
  (gi 0 (r+1)) 0 (sgn at' mo ns (c+1) al [] (r+1) none none) ⟨[],rfl,rfl,fun _ h=>by cases h⟩ fun j d hd ρ ⟨bd,hρ,hb,hw⟩=>by
   obtain⟨hj,rfl⟩:=D5 hd
   subst hρ
   obtain⟨ys,s1,s2,s3⟩:=zm at' mo ns hl al HR j (c+1) (r+1) (by omega) bd none
   obtain⟨vj,t1,t2⟩:=Cz at' mo ns (c+1) al bd (r+1) (fz (.int (0+(j:Int)))) ys (by omega) (by omega) s3
   refine⟨_,_,rfl,bf (ak (aJ s1) t2),bd++[vj],rfl,by simp[hb],fun z hz=>?_⟩
   rcases List.mem_append.mp hz with h | h
   ·exact hw z h
   ·have h:z=vj:=by simpa using h
    subst h
    rw[s2] at t1
    exact t1
 refine⟨bd,c+1,⟨by rw[f3,iu];omega,by rw[f3,iu];omega,by omega,by omega,fun r q=>(f4 r q).1⟩,fun r q=>(f4 r q).2,by rw[f3,iu];omega,by omega,?_⟩
 subst f2
 refine aS ?_
 refine ak (aJ (d:= .int ((r+1:Nat):Int)) ?_) ?_
 ·simp only[aj,d2,dV,dC,aC,aN,aq,List.map_cons,List.map_nil,List.cons_append,List.nil_append,List.length_cons,List.length_nil,List.getElem?_cons_zero,List.getElem?_cons_succ,Nat.reduceAdd,if_true,fY,zC,k1]
 refine ak (aJ (d:= .int ((c+1:Nat):Int)) ?_) ?_
 ·simp only[aj,d2,dV,dC,aC,aN,aq,List.map_cons,List.map_nil,List.cons_append,List.nil_append,List.length_cons,List.length_nil,List.replicate,List.set_cons_zero,List.set_cons_succ,Nat.reduceSub,List.getElem?_cons_zero,List.getElem?_cons_succ,Nat.reduceAdd,if_true,fY,Ha,k2]
 refine ak (aJ (d:= .str al) ?_) ?_
 ·simp only[aj,d2,dV,dC,dA,aC,aN,aq,List.map_cons,List.map_nil,List.cons_append,List.nil_append,List.length_cons,List.length_nil,List.replicate,List.set_cons_zero,List.set_cons_succ,Nat.reduceSub,List.getElem?_cons_zero,List.getElem?_cons_succ,Nat.reduceAdd,if_true,fY,JT,fC,dq,Nat.reduceLeDiff,e4]
 refine ak (aJ (d:= .tup []) rfl) ?_
 refine ak (BP (k9 (n:=r+1) (by omega)) f1) ?_
 exact aE rfl
def Plain:D→Prop
 | .non | .bl _ | .int _ | .str _ | .tup _ | .lst _=>True
 |_=>False
def isStr:D→Bool
 | .str _=>true
 |_=>false
def isTup:D→Bool
 | .tup _=>true
 |_=>false
theorem fB{d:D}(h:Plain d):gQ [d, .raw (.ty "str")]=M.ret (.bl (isStr d)):=by
 cases d<;>first | rfl | exact h.elim
theorem mR{d:D}(h:Plain d):gQ [d, .raw (.ty "tuple")]=M.ret (.bl (isTup d)):=by
 cases d<;>first | rfl | exact h.elim
def rq:D→Bool
 | .str x=>(x.length==1)&&EN x
 |_=>false
theorem kz{ρ:aX}{i:Nat}{d:D}(h:ρ[i]? =some (fz d)):dV i ρ=M.ret d:=by
 unfold dV
 rw[h]
theorem eq_int(i j:Int):mz (.int i) (.int j)=M.ret (.bl (i==j)):=rfl
theorem ne_int(i j:Int):pU (.int i) (.int j)=M.ret (.bl (!(i==j))):=rfl
theorem len_str(x:Str):a6 [.str x]=M.ret (.int (x.length:Int)):=rfl
theorem in_str(x:Str):Ad false (.str x) (.str "abcdef")=M.ret (.bl (EN x)):=rfl
theorem jY(a b:Nat):((a:Int)==(b:Int))=(a==b):=by
 by_cases h:a=b
 ·subst h;simp
 ·have h2:¬(a:Int)=(b:Int):=by omega
  rw[beq_eq_false_iff_ne.mpr h,beq_eq_false_iff_ne.mpr h2]
theorem C_{d:D}(h:Plain d){i:Nat}{ρ:aX}(hρ:ρ[i]? =some (fz d)):
 dX (dA gQ (aC (dV i) (aC (dC (.raw (.ty "str"))) aN))) (dX (d2 mz (dA a6 (aC (dV i) aN)) (dC (.int 1))) (d2 (Ad false) (dV i) (dC (.str "abcdef")))) ρ=M.ret (.bl (rq d)):=by
 have hv:=kz hρ
 have e1:=jY
 cases d with
 |str x=>
  have k:((x.length:Int)==1)=(x.length==1):=jY x.length 1
  simp only[dX,dA,aC,aN,dC,d2,hv,aq,fB h,isStr,zB,if_true,len_str,eq_int,k,in_str,rq]
  cases x.length==1<;>rfl
 |non=>simp only[dX,dA,aC,aN,dC,d2,hv,aq,fB h,isStr,zB,if_false,Bool.false_eq_true,rq]
 |bl b=>simp only[dX,dA,aC,aN,dC,d2,hv,aq,fB h,isStr,zB,if_false,Bool.false_eq_true,rq]
 |int b=>simp only[dX,dA,aC,aN,dC,d2,hv,aq,fB h,isStr,zB,if_false,Bool.false_eq_true,rq]
 |tup b=>simp only[dX,dA,aC,aN,dC,d2,hv,aq,fB h,isStr,zB,if_false,Bool.false_eq_true,rq]
 |lst b=>simp only[dX,dA,aC,aN,dC,d2,hv,aq,fB h,isStr,zB,if_false,Bool.false_eq_true,rq]
 |raw _=>exact h.elim
 |exc _=>exact h.elim
 |scr _=>exact h.elim
 |dct _ _=>exact h.elim
 |dci _ _=>exact h.elim
theorem pe{d:D}(h:Plain d):cN [d]=M.ret (.bl (rq d)):=aS (aE (C_ h rfl))
def iR(x:Str):Bool:=x.cps.toList.all fun c=>EN ⟨#[c]⟩
def mI:D→Bool
 | .str x=>(decide (1≤x.length)&&decide (x.length≤8))&&iR x
 |_=>false
theorem yd(l:List Bool):bools (l.map D.bl)=some l:=by
 induction l with
 |nil=>rfl
 |cons b r ih=>show (bools (r.map D.bl)).map _=_;rw[ih];rfl
theorem all_map(l:List Bool):allM [.lst (l.map D.bl)]=M.ret (.bl (l.all id)):=by
 show (match bools (l.map D.bl) with | some bs=>M.ret (D.bl (bs.all id)) | none=>M.stuck)=_
 rw[yd]
theorem zQ{δ:DE}{ρ:aX}{n:Nat}(h:δ ρ=M.ret (.int (n:Int))):
 b9 (vf (fun i j=>decide (i≤j)) (fun i j=>decide (i≤j)) (dC (.int 1)) δ (dC (.int 8))) ρ=M.ret (decide (1≤n)&&decide (n≤8)):=by
 have k1:decide ((1:Int)≤(n:Int))=decide (1≤n):=by by_cases h:1≤n<;>simp[h]<;>omega
 have k2:decide ((n:Int)≤8)=decide (n≤8):=by by_cases h:n≤8<;>simp[h]<;>omega
 simp only[b9,vf,dC,h,aq,k1,k2,gI,zB]
 cases decide (1≤n)<;>rfl
theorem vO{d:D}(h:Plain d):eX [d]=M.ret (.bl (mI d)):=by
 refine aS ?_
 have hρ:([d].map (fun d=>some (Sl.fz d))++List.replicate (1 - [d].length) none)=[fz d]:=rfl
 rw[hρ]
 have hv:dV 0 [fz d]=M.ret d:=rfl
 have no:isStr d=false→u6 [fz d]=M.ret (.rt (.bl false)):=fun hs=>by
  refine de (ez ?_ (aE rfl))
  simp only[kr,cJ,cx,dA,aC,aN,dC,hv,aq,fB h,hs,uV,Bool.not_false,if_true]
 cases d with
 |str x=>
  have hi:cx (dA gQ (aC (dV 0) (aC (dC (.raw (.ty "str"))) aN))) [fz (.str x)]=M.ret true:=by
   simp only[cx,dA,aC,aN,dC,hv,aq,fB h,isStr,uV]
  have hl:dA a6 (aC (dV 0) aN) [fz (.str x)]=M.ret (.int (x.length:Int)):=rfl
  have hc:=zQ hl
  by_cases hr:(decide (1≤x.length)&&decide (x.length≤8))=true
  ·rw[hr] at hc
   refine ak (cQ ?_ (ρ:=[fz (.str x)]) rfl) (aE ?_)
   ·unfold kr cJ
    rw[hi,aq,aq,hc]
    rfl
   ·have hb:x.length≤8:=by simp only[Bool.and_eq_true,decide_eq_true_eq] at hr;exact hr.2
    have cm:bE 0 (fun ρ=>(dV 0) ρ>>=GV) cM (aj 1 cN (aC (dV 0) aN)) [fz (.str x)]=M.ret (.lst ((x.cps.toList.map fun c=>EN ⟨#[c]⟩).map D.bl)):=by
     refine cE (ds:=signs x) rfl ?_ ?_
     ·have:=fX (f:=gM 0 cM (aj 1 cN (aC (dV 0) aN)) [fz (.str x)]) (g:=fun d=>D.bl (rq d)) (signs x) fun d hd=>by
       rw[ky]
       obtain⟨c,_,rfl⟩:=List.mem_map.mp hd
       show (cN [.str ⟨#[c]⟩]>>=fun y=>M.ret (some y))=_
       rw[pe (d:= .str ⟨#[c]⟩) trivial]
       rfl
      rw[this]
      unfold signs
      rw[List.map_map,List.map_map]
      congr 1
     ·rw[List.length_map,List.length_map,Array.length_toList,dq]
      exact Nat.le_trans hb (by decide)
    rw[bY (aT cm rfl),all_map]
    show M.ret (D.bl ((x.cps.toList.map fun c=>EN ⟨#[c]⟩).all id))=M.ret (D.bl ((decide (1≤x.length)&&decide (x.length≤8))&&iR x))
    rw[hr]
    unfold iR
    rw[List.all_map]
    rfl
  ·have hr:(decide (1≤x.length)&&decide (x.length≤8))=false:=by simpa using hr
   rw[hr] at hc
   have:mI (.str x)=false:=by
    show ((decide (1≤x.length)&&decide (x.length≤8))&&iR x)=false
    rw[hr];rfl
   rw[this]
   refine de (ez ?_ (aE rfl))
   unfold kr cJ
   rw[hi,aq,aq,hc]
   rfl
 |non=>exact no rfl
 |bl b=>exact no rfl
 |int b=>exact no rfl
 |tup b=>exact no rfl
 |lst b=>exact no rfl
 |raw _=>exact h.elim
 |exc _=>exact h.elim
 |scr _=>exact h.elim
 |dct _ _=>exact h.elim
 |dci _ _=>exact h.elim
def ju:D→Nat
 | .str x=>x.length
 |_=>0
def mZ:D→Bool
 | .tup ds=>(decide (1≤ds.length)&&decide (ds.length≤8))&&(ds.all mI&&ds.all fun d=>ju d==ju (ds.headD .non))
 |_=>false
def Plain2:D→Prop
 | .tup ds=>∀d∈ds,Plain d
 |d=>Plain d
theorem Plain2.plain{d:D}(h:Plain2 d):Plain d:=by
 cases d<;>first | exact h | exact trivial
theorem C9{ds:List D}:a6 [.tup ds]=M.ret (.int (ds.length:Int)):=rfl
theorem Ly{ds:List D}{d:D}{r:List D}(h:ds=d::r):bg (.tup ds) (.int 0)=M.ret d:=by
 subst h
 show (match L2.atI (d::r) ((0:Nat):Int) with | some d=>M.ret d | none=>M.stuck)=_
 rw[du (x:=d) rfl]
theorem D7{d:D}(h:mI d=true):∃x,d= .str x:=by
 cases d<;>first | exact⟨_,rfl⟩ | cases h
theorem yx{d:D}(h:Plain d):kr (cJ (cx (dA gQ (aC (dV 0) (aC (dC (.raw (.ty "tuple"))) aN))))) (cJ (b9 (vf (fun i j=>decide (i≤j)) (fun i j=>decide (i≤j)) (dC (.int 1)) (dA a6 (aC (dV 0) aN)) (dC (.int 8))))) [fz d]=
 M.ret (match d with | .tup ds=>!(decide (1≤ds.length)&&decide (ds.length≤8)) | _=>true):=by
 have hv:dV 0 [fz d]=M.ret d:=rfl
 have no:isTup d=false→kr (cJ (cx (dA gQ (aC (dV 0) (aC (dC (.raw (.ty "tuple"))) aN))))) (cJ (b9 (vf (fun i j=>decide (i≤j)) (fun i j=>decide (i≤j)) (dC (.int 1)) (dA a6 (aC (dV 0) aN)) (dC (.int 8))))) [fz d]=M.ret true:=fun hs=>by
  simp only[kr,cJ,cx,dA,aC,aN,dC,hv,aq,mR h,hs,uV,Bool.not_false,if_true]
 cases d with
 |tup ds=>
  have hi:cx (dA gQ (aC (dV 0) (aC (dC (.raw (.ty "tuple"))) aN))) [fz (.tup ds)]=M.ret true:=by
   simp only[cx,dA,aC,aN,dC,hv,aq,mR h,isTup,uV]
  have hl:dA a6 (aC (dV 0) aN) [fz (.tup ds)]=M.ret (.int (ds.length:Int)):=rfl
  unfold kr cJ
  rw[hi,aq,aq,zQ hl]
  rfl
 |non=>exact no rfl
 |bl b=>exact no rfl
 |int b=>exact no rfl
 |str b=>exact no rfl
 |lst b=>exact no rfl
 |raw _=>exact h.elim
 |exc _=>exact h.elim
 |scr _=>exact h.elim
 |dct _ _=>exact h.elim
 |dci _ _=>exact h.elim
theorem all_rows{ds:List D}(h:∀d∈ds,Plain d)(hl:ds.length≤8):dA allM (aC (bE 0 (vB (dV 0)) cM (aj 1 eX (aC (dV 0) aN))) aN) [fz (.tup ds)]=M.ret (.bl (ds.all mI)):=by
 have cm:bE 0 (vB (dV 0)) cM (aj 1 eX (aC (dV 0) aN)) [fz (.tup ds)]=M.ret (.lst ((ds.map mI).map D.bl)):=by
  refine cE (ds:=ds) rfl ?_ (by rw[List.length_map,List.length_map,dq];omega)
  rw[List.map_map]
  refine fX (g:=D.bl∘mI) ds fun d hd=>?_
  rw[ky]
  show (eX [d]>>=fun y=>M.ret (some y))=_
  rw[vO (h d hd)]
  rfl
 rw[bY (aT cm rfl),all_map,List.all_map]
 rfl
theorem all_lens{ds:List D}(hs:∀d∈ds,∃x,d= .str x)(h0:1≤ds.length)(hl:ds.length≤8):
 dA allM (aC (bE 0 (vB (dV 0)) cM (d2 mz (dA a6 (aC (dV 0) aN)) (dA a6 (aC (d2 bg (dV 1) (dC (.int 0))) aN)))) aN) [fz (.tup ds)]=M.ret (.bl (ds.all fun d=>ju d==ju (ds.headD .non))):=by
 obtain⟨d0,r,e0⟩:∃d0 r,ds=d0::r:=by
  cases ds with
  |nil=>simp at h0
  |cons a r=>exact⟨a,r,rfl⟩
 have hh:ds.headD .non=d0:=by rw[e0];rfl
 obtain⟨x0,MR⟩:=hs d0 (by rw[e0];exact List.mem_cons_self ..)
 have cm:bE 0 (vB (dV 0)) cM (d2 mz (dA a6 (aC (dV 0) aN)) (dA a6 (aC (d2 bg (dV 1) (dC (.int 0))) aN))) [fz (.tup ds)]=M.ret (.lst ((ds.map fun d=>ju d==ju (ds.headD .non)).map D.bl)):=by
  refine cE (ds:=ds) rfl ?_ (by rw[List.length_map,List.length_map,dq];omega)
  rw[List.map_map]
  refine fX (g:=D.bl∘fun d=>ju d==ju (ds.headD .non)) ds fun d hd=>?_
  rw[ky]
  obtain⟨x,rfl⟩:=hs d hd
  have k:((x.length:Int)==(x0.length:Int))=(x.length==x0.length):=jY _ _
  have i0:bg (.tup ds) (.int 0)=M.ret (.str x0):=by rw[Ly e0,MR]
  have NR:ds.headD .non= .str x0:=by rw[hh,MR]
  simp only[d2,dA,aC,aN,dC,dV,aq,List.getElem?_cons_zero,List.getElem?_cons_succ,len_str,i0,eq_int,k,Function.comp,ju,NR]
 rw[bY (aT cm rfl),all_map,List.all_map]
 rfl
theorem rp{d:D}(h:Plain2 d):gn [d]=M.ret (.bl (mZ d)):=by
 refine aS ?_
 have hρ:([d].map (fun d=>some (Sl.fz d))++List.replicate (1 - [d].length) none)=[fz d]:=rfl
 rw[hρ]
 have hf:=yx h.plain
 have no:(∀ds,d≠ .tup ds)→oZ [fz d]=M.ret (.rt (.bl (mZ d))):=fun hn=>by
  cases d<;>first | exact absurd rfl (hn _) | exact de (ez hf (aE rfl))
 cases d with
 |tup ds=>
  have hf:_=M.ret (!(decide (1≤ds.length)&&decide (ds.length≤8))):=hf
  by_cases hr:(decide (1≤ds.length)&&decide (ds.length≤8))=true
  ·rw[hr] at hf
   have hb:=hr
   simp only[Bool.and_eq_true,decide_eq_true_eq] at hb
   have e:mZ (.tup ds)=(ds.all mI&&ds.all fun d=>ju d==ju (ds.headD .non)):=by
    show ((decide (1≤ds.length)&&decide (ds.length≤8))&&_)=_
    rw[hr,Bool.true_and]
   rw[e]
   have a1:=all_rows h hb.2
   refine ak (cQ hf rfl) ?_
   cases hc:ds.all mI with
   |false=>
    rw[hc] at a1
    refine de (ez ?_ (aE rfl))
    unfold cJ cx
    rw[a1]
    rfl
   |true=>
    rw[hc] at a1
    refine ak (cQ ?_ rfl) (aE ?_)
    ·unfold cJ cx
     rw[a1]
     rfl
    ·rw[Bool.true_and]
     exact all_lens (fun d hd=>D7 (List.all_eq_true.mp hc d hd)) hb.1 hb.2
  ·have hr:(decide (1≤ds.length)&&decide (ds.length≤8))=false:=by simpa using hr
   rw[hr] at hf
   have e:mZ (.tup ds)=false:=by
    show ((decide (1≤ds.length)&&decide (ds.length≤8))&&_)=_
    rw[hr];rfl
   rw[e]
   exact de (ez hf (aE rfl))
 |non=>exact no fun _ z=>by cases z
 |bl b=>exact no fun _ z=>by cases z
 |int b=>exact no fun _ z=>by cases z
 |str b=>exact no fun _ z=>by cases z
 |lst b=>exact no fun _ z=>by cases z
 |raw _=>exact h.elim
 |exc _=>exact h.elim
 |scr _=>exact h.elim
 |dct _ _=>exact h.elim
 |dci _ _=>exact h.elim
structure Brd (ob:List Str) (V:Nat):Prop where
 r1:1≤ob.length
 r8:ob.length≤8
 w1:1≤V
 w8:V≤8
 rows:∀r∈ob,Row V r
theorem Good.brd{bd:List Str}{W:Nat}(hg:Good bd W):Brd bd W:=⟨hg.r1,by have:=hg.r5;omega,hg.w1,by have:=hg.w5;omega,hg.rows⟩
theorem Brd.board{ob:List Str}{V:Nat}(h:Brd ob V):mZ (brd ob)=true:=by
 have Lj:∀r∈ob,mI (.str r)=true:=fun r hr=>by
  have q:=h.rows r hr
  show ((decide (1≤r.length)&&decide (r.length≤8))&&iR r)=true
  rw[q.len]
  have a:decide (1≤V)=true:=decide_eq_true h.w1
  have b:decide (V≤8)=true:=decide_eq_true h.w8
  rw[a,b]
  show iR r=true
  exact List.all_eq_true.mpr fun c hc=>q.let' c hc
 have h0:ju ((ob.map D.str).headD .non)=V:=by
  have:=h.r1
  have hr:=h.rows
  cases ob with
  |nil=>simp at this
  |cons x l=>exact(hr x (List.mem_cons_self ..)).len
 show ((decide (1≤(ob.map D.str).length)&&decide ((ob.map D.str).length≤8))&&((ob.map D.str).all mI&&(ob.map D.str).all fun d=>ju d==ju ((ob.map D.str).headD .non)))=true
 rw[h0,List.length_map,decide_eq_true h.r1,decide_eq_true h.r8]
 have a:(ob.map D.str).all mI=true:=List.all_eq_true.mpr fun d hd=>by
  obtain⟨r,hr,rfl⟩:=List.mem_map.mp hd
  exact Lj r hr
 have b:((ob.map D.str).all fun d=>ju d==V)=true:=List.all_eq_true.mpr fun d hd=>by
  obtain⟨r,hr,rfl⟩:=List.mem_map.mp hd
  show (r.length==V)=true
  rw[(h.rows r hr).len]
  simp
 rw[a,b]
 rfl
theorem ye{bd:List Str}:Plain2 (brd bd):=fun d hd=>by
 obtain⟨r,_,rfl⟩:=List.mem_map.mp hd
 trivial
theorem q0{δ:DE}{ρ:aX}{b:Bool}(h:δ ρ=M.ret (.bl b)):cx δ ρ=M.ret b:=by
 unfold cx
 rw[h]
 rfl
theorem eN{δ:DE}{ρ:aX}{b:Bool}(h:δ ρ=M.ret (.bl b)):b9 δ ρ=M.ret b:=by
 unfold b9
 rw[h]
 rfl
theorem qZ{τ:DT}{ρ:aX}{b:Bool}(h:τ ρ=M.ret b):cJ τ ρ=M.ret (!b):=by
 unfold cJ
 rw[h]
 rfl
theorem xg{a c:DT}{ρ:aX}{p q:Bool}(h1:a ρ=M.ret p)(h2:c ρ=M.ret q):kr a c ρ=M.ret (p||q):=by
 unfold kr
 rw[h1,aq]
 cases p
 ·exact h2
 ·rfl
theorem Fj{a c:DT}{ρ:aX}{p q:Bool}(h1:a ρ=M.ret p)(h2:c ρ=M.ret q):CB a c ρ=M.ret (p&&q):=by
 unfold CB
 rw[h1,aq]
 cases p
 ·rfl
 ·exact h2
theorem CC{a c:DE}{ρ:aX}{p q:Bool}(h1:a ρ=M.ret (.bl p))(h2:c ρ=M.ret (.bl q)):dX a c ρ=M.ret (.bl (p&&q)):=by
 unfold dX
 rw[h1,aq]
 cases p
 ·rfl
 ·exact h2
theorem Hy{c:DT}{a b:DE}{ρ:aX}{p:Bool}(h:c ρ=M.ret p):Eu c a b ρ=if p then a ρ else b ρ:=by
 unfold Eu
 rw[h]
 rfl
theorem Brd.nb{ob:List Str}{V:Nat}(h:Brd ob V):aY [brd ob]=M.ret .non:=by
 refine sr (ρ:=[fz (brd ob)]) (cQ (qZ (q0 (b:=true) ?_)) rfl)
 refine(ai (ds:=[brd ob]) rfl rfl).trans ?_
 rw[rp ye,h.board]
theorem Brd.len0{ob:List Str}{V:Nat}(h:Brd ob V){i:Nat}{ρ:aX}(hρ:ρ[i]? =some (fz (brd ob))):dA a6 (aC (d2 bg (dV i) (dC (.int 0))) aN) ρ=M.ret (.int (V:Int)):=by
 have h1:=h.r1
 have hr:=h.rows
 obtain⟨x,l,e⟩:∃x l,ob=x::l:=by
  cases ob with
  |nil=>simp at h1
  |cons x l=>exact⟨x,l,rfl⟩
 have hx:x.length=V:=(hr x (by rw[e];exact List.mem_cons_self ..)).len
 have i0:bg (brd ob) (.int 0)=M.ret (.str x):=Ly (show ob.map D.str=D.str x::l.map D.str by rw[e];rfl)
 have k:=aG (g:=bg) (kz hρ) (show dC (.int 0) ρ=M.ret (.int 0) from rfl)
 rw[i0] at k
 rw[bY (aT (xs:=[]) k rfl)]
 show M.ret (D.int (x.length:Int))=_
 rw[hx]
theorem F9{bd:List Str}{i:Nat}{ρ:aX}(hρ:ρ[i]? =some (fz (brd bd))):dA a6 (aC (dV i) aN) ρ=M.ret (.int (bd.length:Int)):=by
 have:a6 [brd bd]=M.ret (.int (bd.length:Int)):=by
  show M.ret (D.int ((bd.map D.str).length:Int))=_
  rw[List.length_map]
 simp only[dA,aC,aN,kz hρ,aq,this]
def gL:D→Bool
 | .int _=>true
 |_=>false
theorem ll{d:D}(h:Plain d):a5 [d]=M.ret (.bl (gL d)):=by
 cases d<;>first | rfl | exact h.elim
def Hs(R W:Nat):D→D→Bool
 | .int a, .int b=>(decide (0≤a)&&decide (a<(R:Int)))&&(decide (0≤b)&&decide (b<(W:Int)))
 |_,_=>false
def Et(R W:Nat):D→Bool
 | .tup [u,v]=>Hs R W u v
 |_=>false
theorem Hu{δ ε:DE}{ρ:aX}{i n:Int}(h:δ ρ=M.ret (.int i))(h2:ε ρ=M.ret (.int n)):
 vf (fun i j=>decide (i≤j)) (fun i j=>decide (i<j)) (dC (.int 0)) δ ε ρ=M.ret (.bl (decide (0≤i)&&decide (i<n))):=by
 simp only[vf,dC,h,h2,aq,gI]
 cases decide (0≤i)<;>rfl
theorem tZ{bd:List Str}{W:Nat}(hg:Brd bd W){d:D}(h:Plain2 d):iO [brd bd,d]=M.ret (.bl (Et bd.length W d)):=by
 refine aS ?_
 have hρ:([brd bd,d].map (fun d=>some (Sl.fz d))++List.replicate (2 - [brd bd,d].length) none)=[fz (brd bd),fz d]:=rfl
 rw[hρ]
 have hv:dV 1 [fz (brd bd),fz d]=M.ret d:=rfl
 have no:isTup d=false→qM [fz (brd bd),fz d]=M.ret (.rt (.bl false)):=fun hs=>by
  refine de (ez ?_ (aE rfl))
  simp only[kr,cJ,cx,dA,aC,aN,dC,hv,aq,mR h.plain,hs,uV,Bool.not_false,if_true]
 cases d with
 |tup ds=>
  have hi:cJ (cx (dA gQ (aC (dV 1) (aC (dC (.raw (.ty "tuple"))) aN)))) [fz (brd bd),fz (.tup ds)]=M.ret false:=by
   simp only[cJ,cx,dA,aC,aN,dC,hv,aq,mR h.plain,isTup,uV,Bool.not_true]
  have k:((ds.length:Int)==2)=(ds.length==2):=jY ds.length 2
  have hl:kr (cJ (cx (dA gQ (aC (dV 1) (aC (dC (.raw (.ty "tuple"))) aN))))) (b9 (d2 pU (dA a6 (aC (dV 1) aN)) (dC (.int 2)))) [fz (brd bd),fz (.tup ds)]=M.ret (!(ds.length==2)):=by
   unfold kr
   rw[hi]
   simp only[b9,d2,dA,aC,aN,dC,hv,aq,C9,ne_int,k,zB,Bool.false_eq_true,if_false]
  match ds,h,hl with
  |[],h,hl=>exact de (ez hl (aE rfl))
  |[_],h,hl=>exact de (ez hl (aE rfl))
  |_::_::_::_,h,hl=>
   refine de (ez (hl.trans ?_) (aE rfl))
   simp
  |[u,v],h,hl=>
   refine ak (cQ hl rfl) ?_
   have pu:Plain u:=h u (by simp)
   have pv:Plain v:=h v (by simp)
   have w1:aj 1 a5 (aC (d2 bg (dV 1) (dC (.int 0))) aN) [fz (brd bd),fz (.tup [u,v])]=M.ret (.bl (gL u)):=ll pu
   have w2:aj 1 a5 (aC (d2 bg (dV 1) (dC (.int 1))) aN) [fz (brd bd),fz (.tup [u,v])]=M.ret (.bl (gL v)):=ll pv
   have hw:kr (cJ (cx (aj 1 a5 (aC (d2 bg (dV 1) (dC (.int 0))) aN)))) (cJ (cx (aj 1 a5 (aC (d2 bg (dV 1) (dC (.int 1))) aN)))) [fz (brd bd),fz (.tup [u,v])]=M.ret (!(gL u&&gL v)):=by
    unfold kr cJ cx
    rw[w1,w2]
    simp only[aq,uV]
    cases gL u<;>cases gL v<;>rfl
   have bad:(gL u&&gL v)=false→aA (fK (kr (cJ (cx (aj 1 a5 (aC (d2 bg (dV 1) (dC (.int 0))) aN)))) (cJ (cx (aj 1 a5 (aC (d2 bg (dV 1) (dC (.int 1))) aN))))) (a_ (dC (.bl false))) cw) (a_ (dX (vf (fun i j=>decide (i≤j)) (fun i j=>decide (i<j)) (dC (.int 0)) (d2 bg (dV 1) (dC (.int 0))) (dA a6 (aC (dV 0) aN))) (vf (fun i j=>decide (i≤j)) (fun i j=>decide (i<j)) (dC (.int 0)) (d2 bg (dV 1) (dC (.int 1))) (dA a6 (aC (d2 bg (dV 0) (dC (.int 0))) aN))))) [fz (brd bd),fz (.tup [u,v])]=M.ret (.rt (.bl false)):=fun hz=>by
    rw[hz] at hw
    exact de (ez hw (aE rfl))
   match u,v,hw,bad with
   | .int a, .int b,hw,bad=>
     refine ak (cQ hw rfl) (aE ?_)
     obtain⟨x0,r,e0⟩:∃x0 r,bd=x0::r:=by
      have:=hg.r1
      cases bd with
      |nil=>simp at this
      |cons x r=>exact⟨x,r,rfl⟩
     have hx:x0.length=W:=(hg.rows x0 (by rw[e0];simp)).len
     have l0:dA a6 (aC (dV 0) aN) [fz (brd bd),fz (.tup [.int a, .int b])]=M.ret (.int (bd.length:Int)):=by
      show M.ret (D.int ((bd.map D.str).length:Int))=_
      rw[List.length_map]
     have l1:dA a6 (aC (d2 bg (dV 0) (dC (.int 0))) aN) [fz (brd bd),fz (.tup [.int a, .int b])]=M.ret (.int (W:Int)):=by
      have i0:bg (brd bd) (.int 0)=M.ret (.str x0):=Ly (r:=r.map D.str) (by rw[e0];rfl)
      simp only[dA,aC,aN,d2,dC,dV,List.getElem?_cons_zero,aq,i0,len_str,hx]
     have c1:=Hu (δ:=d2 bg (dV 1) (dC (.int 0))) (i:=a) rfl l0
     have c2:=Hu (δ:=d2 bg (dV 1) (dC (.int 1))) (i:=b) rfl l1
     unfold dX
     rw[c1,aq]
     show (if (decide (0≤a)&&decide (a<(bd.length:Int)))=true then _ else _)=M.ret (D.bl ((decide (0≤a)&&decide (a<(bd.length:Int)))&&(decide (0≤b)&&decide (b<(W:Int)))))
     cases (decide (0≤a)&&decide (a<(bd.length:Int)))
     ·rfl
     ·rw[if_pos rfl,c2,Bool.true_and]
   | .non,_,_,bad=>exact bad rfl
   | .bl _,_,_,bad=>exact bad rfl
   | .str _,_,_,bad=>exact bad rfl
   | .tup _,_,_,bad=>exact bad rfl
   | .lst _,_,_,bad=>exact bad rfl
   | .raw _,_,_,_=>exact pu.elim
   | .exc _,_,_,_=>exact pu.elim
   | .scr _,_,_,_=>exact pu.elim
   | .int a, .non,_,bad=>exact bad rfl
   | .int a, .bl _,_,bad=>exact bad rfl
   | .int a, .str _,_,bad=>exact bad rfl
   | .int a, .tup _,_,bad=>exact bad rfl
   | .int a, .lst _,_,bad=>exact bad rfl
   | .int a, .raw _,_,_=>exact pv.elim
   | .int a, .exc _,_,_=>exact pv.elim
   | .int a, .scr _,_,_=>exact pv.elim
 |non=>exact no rfl
 |bl b=>exact no rfl
 |int b=>exact no rfl
 |str b=>exact no rfl
 |lst b=>exact no rfl
 |raw _=>exact h.elim
 |exc _=>exact h.elim
 |scr _=>exact h.elim
 |dct _ _=>exact h.elim
 |dci _ _=>exact h.elim
abbrev Cell:=Nat×Nat
def cD(c:Cell):D:= .tup [.int (c.1:Int), .int (c.2:Int)]
def On(R W:Nat)(c:Cell):Prop:=c.1<R∧c.2<W
instance {R W:Nat}{c:Cell}:Decidable (On R W c):=by unfold On;infer_instance
theorem zL{c:Cell}:Plain2 (cD c):=fun d hd=>by
 have:d= .int (c.1:Int)∨d= .int (c.2:Int):=by simpa[cD] using hd
 rcases this with rfl | rfl<;>trivial
theorem CA{R W:Nat}{c:Cell}(h:On R W c):Et R W (cD c)=true:=by
 show ((decide ((0:Int)≤(c.1:Int))&&decide ((c.1:Int)<(R:Int)))&&(decide ((0:Int)≤(c.2:Int))&&decide ((c.2:Int)<(W:Int))))=true
 obtain⟨h1,h2⟩:=h
 simp
 omega
theorem Brd.nc{bd:List Str}{W:Nat}(hg:Brd bd W){c:Cell}(h:On bd.length W c):ft [brd bd,cD c]=M.ret .non:=by
 refine sr (ρ:=[fz (brd bd),fz (cD c)]) (cQ (qZ (q0 (b:=true) ?_)) rfl)
 refine(ai (ds:=[brd bd,cD c]) rfl rfl).trans ?_
 rw[tZ hg zL,CA h]
def Ways(w:Nat):Prop:=w=4∨w=8
theorem Ways.nw{w:Nat}(h:Ways w):cb [.int (w:Int)]=M.ret .non:=by
 rcases h with rfl | rfl<;>rfl
def ch(x:Str)(j:Nat):Nat:=x.cps.toList.getD j 0
def at2(bd:List Str)(i j:Nat):Nat:=ch (bd.getD i ⟨#[]⟩) j
abbrev lt(bd:List Str)(c:Cell):Nat:=at2 bd c.1 c.2
def sg(n:Nat):D:= .str ⟨#[n]⟩
theorem D_{x:Str}{c:Nat}(h:c<x.length):rh (.str x) (.int (c:Int))=M.ret (sg (ch x c)):=by
 have h':c<x.cps.toList.length:=by rw[Array.length_toList];exact h
 show (match L2.atI x.cps.toList (c:Int) with | some c=>M.ret (D.str ⟨#[c]⟩) | none=>M.stuck)=_
 rw[du (List.getElem?_eq_getElem h')]
 unfold sg ch
 rw[List.getD_eq_getElem?_getD,List.getElem?_eq_getElem h']
 rfl
theorem getD_mem{bd:List Str}{i:Nat}(h:i<bd.length):bd.getD i ⟨#[]⟩∈bd:=by
 rw[List.getD_eq_getElem?_getD,List.getElem?_eq_getElem h]
 exact List.getElem_mem h
theorem FV{bd:List Str}{i:Nat}(h:i<bd.length):bg (brd bd) (.int (i:Int))=M.ret (.str (bd.getD i ⟨#[]⟩)):=by
 show (match L2.atI (bd.map D.str) (i:Int) with | some d=>M.ret d | none=>M.stuck)=_
 rw[du (x:= .str (bd.getD i ⟨#[]⟩)) ?_]
 rw[List.getElem?_map,List.getElem?_eq_getElem h,List.getD_eq_getElem?_getD,List.getElem?_eq_getElem h]
 rfl
theorem cZ{bd:List Str}{W:Nat}(hg:Brd bd W){c:Cell}(h:On bd.length W c):aL [brd bd,cD c]=M.ret (sg (lt bd c)):=by
 refine aS (aE ?_)
 refine(aG (x:= .str (bd.getD c.1 ⟨#[]⟩)) (y:= .int (c.2:Int)) ((aG (x:=brd bd) (y:= .int (c.1:Int)) rfl rfl).trans (FV h.1)) rfl).trans ?_
 exact D_ (by rw[(hg.rows _ (getD_mem h.1)).len];exact h.2)
theorem HG(a b:Nat):mz (sg a) (sg b)=M.ret (.bl (decide (a=b))):=by
 show M.ret (D.bl (decide ((⟨#[a]⟩:Str)=⟨#[b]⟩)))=_
 congr 2
 by_cases h:a=b
 ·subst h;simp
 ·have:¬((⟨#[a]⟩:Str)=⟨#[b]⟩):=fun z=>by
   injection z with z
   exact h (by simpa using z)
  rw[decide_eq_false h,decide_eq_false this]
def fP(a b:Nat):Nat:=max a b - min a b
def fG(w:Nat)(a b:Cell):Bool:=if w=4 then decide (fP a.1 b.1+fP a.2 b.2=1) else decide (max (fP a.1 b.1) (fP a.2 b.2)=1)
theorem wW(a b:Nat):zG [.int ((a:Int) - (b:Int))]=M.ret (.int (fP a b:Int)):=by
 show M.ret (D.int _)=_
 congr 2
 unfold fP
 omega
theorem qN{w:Nat}(hw:Ways w)(a b:Cell):dg [cD a,cD b, .int (w:Int)]=M.ret (.bl (fG w a b)):=by
 refine aS ?_
 refine ak (ρ':=[fz (cD a),fz (cD b),fz (.int (w:Int)),fz (.int (fP a.1 b.1:Int)),none]) ((aJ (d:= .int (fP a.1 b.1:Int)) (wW a.1 b.1)).trans rfl) ?_
 refine ak (ρ':=[fz (cD a),fz (cD b),fz (.int (w:Int)),fz (.int (fP a.1 b.1:Int)),fz (.int (fP a.2 b.2:Int))]) ((aJ (d:= .int (fP a.2 b.2:Int)) (wW a.2 b.2)).trans rfl) ?_
 rcases hw with rfl | rfl
 ·refine de (ez (eN rfl) (aE ?_))
  show M.ret (D.bl (((fP a.1 b.1:Int)+(fP a.2 b.2:Int))==1))=_
  unfold fG
  rw[if_pos rfl]
  congr 2
  have:((fP a.1 b.1:Int)+(fP a.2 b.2:Int))=((fP a.1 b.1+fP a.2 b.2:Nat):Int):=by omega
  rw[this]
  have e:=jY (fP a.1 b.1+fP a.2 b.2) 1
  exact e.trans rfl
 ·refine ak (cQ (eN rfl) rfl) (aE ?_)
  show M.ret (D.bl ((if (fP a.1 b.1:Int)<(fP a.2 b.2:Int) then(fP a.2 b.2:Int) else(fP a.1 b.1:Int))==1))=_
  have hn:fG 8 a b=decide (max (fP a.1 b.1) (fP a.2 b.2)=1):=rfl
  rw[hn]
  congr 2
  have:(if (fP a.1 b.1:Int)<(fP a.2 b.2:Int) then(fP a.2 b.2:Int) else(fP a.1 b.1:Int))=((max (fP a.1 b.1) (fP a.2 b.2):Nat):Int):=by split<;>omega
  rw[this]
  have e:=jY (max (fP a.1 b.1) (fP a.2 b.2)) 1
  exact e.trans rfl
theorem hZ(w:Nat)(a b:Cell):fG w a b=fG w b a:=by
 have e:∀x y:Nat,fP x y=fP y x:=fun x y=>by unfold fP;omega
 unfold fG
 rw[e a.1,e a.2]
theorem I8{a b:Cell}(h:fG 4 a b=true):fG 8 a b=true:=by
 unfold fG at h⊢
 rw[if_pos rfl] at h
 rw[if_neg (by decide)]
 have h:=of_decide_eq_true h
 exact decide_eq_true (by omega)
theorem cF{put:D→aX→Option aX}{body:DS}{d:D}{ds:List D}{ρ ρ1 ρ2:aX}(h1:put d ρ=some ρ1)(h2:body ρ1=M.ret (.nx ρ2)):forL put body (d::ds) ρ=forL put body ds ρ2:=by
 show (match put d ρ with | none=>M.stuck | some ρ1=>body ρ1>>=fun o=>match o with | .nx ρ2=>forL put body ds ρ2 | .rt v=>M.ret (.rt v))=_
 rw[h1]
 show (body ρ1>>=fun o=>match o with | .nx ρ2=>forL put body ds ρ2 | .rt v=>M.ret (.rt v))=_
 rw[h2]
 rfl
section
variable{α σ:Type}{put:D→aX→Option aX}{body:DS}
theorem kD(enc:α→D)(mk:σ→aX)(step:σ→α→σ)(I:σ→Prop):∀(xs:List α) (s:σ),I s→(∀s,I s→∀x∈xs,I (step s x)∧∃ρ1,put (enc x) (mk s)=some ρ1∧body ρ1=M.ret (.nx (mk (step s x))))→
 I (xs.foldl step s)∧forL put body (xs.map enc) (mk s)=M.ret (.nx (mk (xs.foldl step s)))
 |[],s,h,_=>⟨h,rfl⟩
 |x::xs,s,h,st=>by
  obtain⟨h2,ρ1,e1,e2⟩:=st s h x (List.mem_cons_self ..)
  obtain⟨h3,e3⟩:=kD enc mk step I xs (step s x) h2 fun s hs y hy=>st s hs y (List.mem_cons_of_mem _ hy)
  exact⟨h3,(cF e1 e2).trans e3⟩
theorem kE(enc:α→D)(ρ:aX):∀(xs:List α),(∀x∈xs,∃ρ1,put (enc x) ρ=some ρ1∧body ρ1=M.ret (.nx ρ))→forL put body (xs.map enc) ρ=M.ret (.nx ρ)
 |[],_=>rfl
 |x::xs,st=>by
  obtain⟨ρ1,e1,e2⟩:=st x (List.mem_cons_self ..)
  exact(cF e1 e2).trans (kE enc ρ xs fun y hy=>st y (List.mem_cons_of_mem _ hy))
theorem gX(enc:α→D)(mk:List D→aX)(g:α→List D){B:Nat}:∀(xs:List α) (acc:List D),(acc++xs.flatMap g).length≤B→(∀x∈xs,∀acc,(acc++g x).length≤B→∃ρ1,put (enc x) (mk acc)=some ρ1∧body ρ1=M.ret (.nx (mk (acc++g x))))→
 forL put body (xs.map enc) (mk acc)=M.ret (.nx (mk (acc++xs.flatMap g)))
 |[],acc,_,_=>by simp;rfl
 |x::xs,acc,hB,st=>by
  have Mr:((acc++g x)++xs.flatMap g).length≤B:=by simpa[List.flatMap_cons,List.append_assoc] using hB
  obtain⟨ρ1,e1,e2⟩:=st x (List.mem_cons_self ..) acc (Nat.le_trans (by simp only[List.length_append];omega) Mr)
  have e3:=gX enc mk g xs (acc++g x) Mr fun y hy=>st y (List.mem_cons_of_mem _ hy)
  rw[List.map_cons,cF e1 e2,e3,List.flatMap_cons,List.append_assoc]
end
theorem fe{put:D→aX→Option aX}{δi:DA}{b:DS}{ρ:aX}{ds:List D}{m:M Out}(h:δi ρ=M.ret ds)(h2:forL put b ds ρ=m):d_ put δi b ρ=m:=by
 unfold d_
 rw[h]
 exact h2
theorem c9{τ:DS}{ρ:aX}{o:Out}(h:τ ρ=M.ret o):(fun ρ=>noex (τ ρ)) ρ=M.ret o:=by
 show noex (τ ρ)=_
 rw[h]
 rfl
theorem uJ(lo n:Nat):gi (lo:Int) n=(List.range' lo n).map fun(k:Nat)=>D.int (k:Int):=by
 unfold gi
 rw[List.range_eq_range']
 have:∀(n a:Nat),(List.range' a n).map (fun (i:Nat)=>D.int ((lo:Int)+(i:Int)))=(List.range' (lo+a) n).map fun(k:Nat)=>D.int (k:Int):=by
  intro n
  induction n with
  |zero=>intro a;rfl
  |succ n ih=>
   intro a
   rw[List.range'_succ,List.range'_succ,List.map_cons,List.map_cons,ih (a+1)]
   rfl
 exact this n 0
theorem GO{δ:DE}{ρ:aX}{n:Nat}(h:δ ρ=M.ret (.int (n:Int)))(hn:n≤4096):(aC δ aN ρ>>=jg)=M.ret ((List.range n).map fun(k:Nat)=>D.int (k:Int)):=by
 rw[aT h rfl,aq,k9 hn,show gi 0 n=gi ((0:Nat):Int) n from rfl,uJ,List.range_eq_range']
theorem GP{δ ε:DE}{ρ:aX}{i j:Nat}(h:δ ρ=M.ret (.int (i:Int)))(h2:ε ρ=M.ret (.int (j:Int)))(hi:i≤4096)(hj:j≤4096):(aC δ (aC ε aN) ρ>>=oD)=M.ret ((List.range' i (j - i)).map fun(k:Nat)=>D.int (k:Int)):=by
 rw[aT h (aT h2 rfl),aq]
 show (if (-4096≤(i:Int)∧(i:Int)≤4096)∧(-4096≤(j:Int)∧(j:Int)≤4096) then M.ret (gi (i:Int) ((j:Int) - (i:Int)).toNat) else M.stuck)=_
 rw[if_pos ⟨⟨by omega,by omega⟩,by omega,by omega⟩,show ((j:Int) - (i:Int)).toNat=j - i by omega,uJ]
def cP(W r:Nat):List Cell:=(List.range W).map fun k=>(r,k)
def aK(R W:Nat):List Cell:=(List.range R).flatMap (cP W)
theorem aI{R W:Nat}{c:Cell}:c∈aK R W↔On R W c:=by
 unfold aK cP On
 simp only[List.mem_flatMap,List.mem_range,List.mem_map]
 constructor
 ·rintro⟨r,hr,k,hk,rfl⟩;exact⟨hr,hk⟩
 ·rintro⟨h1,h2⟩;exact⟨c.1,h1,c.2,h2,rfl⟩
theorem cq(R W:Nat):(aK R W).length=R*W:=by
 unfold aK
 have:∀l:List Nat,(l.flatMap (cP W)).length=l.length*W:=by
  intro l
  induction l with
  |nil=>simp
  |cons a l ih=>rw[List.flatMap_cons,List.length_append,ih,List.length_cons,Nat.succ_mul];simp[cP];omega
 rw[this,List.length_range]
theorem fV{bd:List Str}{W:Nat}(hg:Brd bd W)(r:Nat):ba [brd bd, .int (r:Int)]=M.ret (.lst ((cP W r).map cD)):=by
 have:=hg.w8
 refine aS (aE (cE (GO (n:=W) (hg.len0 rfl) (by omega)) ?_ (by simp[cP,dq];omega)))
 rw[show (cP W r).map cD=((List.range W).map fun(k:Nat)=>D.int (k:Int)).map (fun e=> .tup [.int (r:Int),e]) by simp[cP,List.map_map];intro a _;rfl]
 exact fX (g:=fun e=> .tup [.int (r:Int),e]) _ fun e _=>rfl
theorem fN{bd:List Str}{W:Nat}(hg:Brd bd W):bF [brd bd]=M.ret (.lst ((aK bd.length W).map cD)):=by
 have h8:=hg.r8
 have w8:=hg.w8
 have hm:bd.length*W≤64:=Nat.mul_le_mul h8 w8
 have J2:(List.range bd.length).flatMap (fun r=>(cP W r).map cD)=(aK bd.length W).map cD:=by
  unfold aK;rw[List.map_flatMap]
 have e:=gX (put:=putN 2) (body:=cG [2] (BO 1 (aj 2 ba (aC (dV 0) (aC (dV 2) aN))))) (fun (k:Nat)=>D.int (k:Int)) (fun acc=>[fz (brd bd),some (.ow (.lst acc)),none]) (fun r=>(cP W r).map cD) (B:=64) (List.range bd.length) []
  (by rw[List.nil_append,J2,List.length_map,cq];exact hm) fun r hr acc hB=>by
   refine⟨[fz (brd bd),some (.ow (.lst acc)),fz (.int (r:Int))],rfl,?_⟩
   refine(bf (ρ':=[fz (brd bd),some (.ow (.lst (acc++(cP W r).map cD))),fz (.int (r:Int))]) ?_).trans rfl
   show (ba [brd bd, .int (r:Int)]>>=fun d=>lstM d>>=fun es=>if acc.length+es.length≤lim then M.ret (Out.nx (List.set [fz (brd bd),some (.ow (.lst acc)),fz (.int (r:Int))] 1 (some (.ow (.lst (acc++es)))))) else M.stuck)=_
   rw[fV hg,aq]
   show (if acc.length+((cP W r).map cD).length≤lim then M.ret (Out.nx [fz (brd bd),some (.ow (.lst (acc++(cP W r).map cD))),fz (.int (r:Int))]) else M.stuck)=_
   rw[if_pos (by rw[List.length_append] at hB;rw[dq];omega)]
 rw[List.nil_append,J2] at e
 refine aS (ak (ρ':=[fz (brd bd),some (.ow (.lst [])),none]) rfl (ak (ρ':=[fz (brd bd),some (.ow (.lst ((aK bd.length W).map cD))),none]) (c9 (fe (GO (n:=bd.length) (F9 rfl) (by omega)) e)) ?_))
 rfl
def f_(R W w:Nat)(c:Cell):List Cell:=
 (List.range' (c.1 - 1) (min (c.1+2) R - (c.1 - 1))).flatMap fun r=>((List.range' (c.2 - 1) (min (c.2+2) W - (c.2 - 1))).map fun k=>(r,k)).filter (fG w c)
theorem iU{R W w:Nat}(hw:Ways w){c x:Cell}:x∈f_ R W w c↔On R W x∧fG w c x=true:=by
 unfold f_ On
 simp only[List.mem_flatMap,List.mem_filter,List.mem_map,List.mem_range'_1]
 constructor
 ·rintro⟨r,⟨h1,h2⟩,⟨k,⟨h3,h4⟩,rfl⟩,h5⟩
  refine⟨⟨?_,?_⟩,h5⟩
  ·show r<R;omega
  ·show k<W;omega
 ·rintro⟨⟨h1,h2⟩,h5⟩
  have h6:fP c.1 x.1≤1∧fP c.2 x.2≤1:=by
   unfold fG at h5
   rcases hw with rfl | rfl
   ·rw[if_pos rfl] at h5;have:=of_decide_eq_true h5;omega
   ·rw[if_neg (by decide)] at h5;have:=of_decide_eq_true h5;omega
  unfold fP at h6
  exact⟨x.1,⟨by omega,by omega⟩,⟨x.2,⟨by omega,by omega⟩,rfl⟩,h5⟩
theorem p_(R W w:Nat)(c:Cell):(f_ R W w c).length≤9:=by
 unfold f_
 rw[List.length_flatMap]
 have h:∀r,(((List.range' (c.2 - 1) (min (c.2+2) W - (c.2 - 1))).map fun k=>(r,k)).filter (fG w c)).length≤3:=fun r=>by
  refine Nat.le_trans (List.length_filter_le ..) ?_
  rw[List.length_map,List.length_range']
  omega
 have:∀(l:List Nat),(l.map fun r=>(((List.range' (c.2 - 1) (min (c.2+2) W - (c.2 - 1))).map fun k=>(r,k)).filter (fG w c)).length).sum≤3*l.length:=by
  intro l
  induction l with
  |nil=>simp
  |cons a l ih=>rw[List.map_cons,List.sum_cons,List.length_cons];have:=h a;omega
 refine Nat.le_trans (this _) ?_
 rw[List.length_range']
 omega
abbrev nc(b c w:D)(acc:List D)(x4 x5:Option Sl):aX:=[fz b,fz c,fz w,some (.ow (.lst acc)),x4,x5]
theorem hX{bd:List Str}{W w:Nat}(hg:Brd bd W)(hw:Ways w){c:Cell}(hc:On bd.length W c):bb [brd bd,cD c, .int (w:Int)]=M.ret (.lst ((f_ bd.length W w c).map cD)):=by
 have h8:=hg.r8
 have w8:=hg.w8
 obtain⟨c1,c2⟩:=hc
 have Il:∀n:Nat,vT [.int ((n:Int) - 1), .int 0]=M.ret (.int ((n - 1:Nat):Int)):=fun n=>by
  show M.ret (D.int (if (0:Int)>(n:Int) - 1 then 0 else(n:Int) - 1))=_
  congr 2
  split<;>omega
 have CQ:∀n m:Nat,yR [.int ((n:Int)+2), .int (m:Int)]=M.ret (.int ((min (n+2) m:Nat):Int)):=fun n m=>by
  show M.ret (D.int (if (m:Int)<(n:Int)+2 then(m:Int) else(n:Int)+2))=_
  congr 2
  split<;>omega
 have inner:∀(r:Nat) (acc:List D),acc.length≤16→forL (putN 5) (cG [5] (fK (cx (aj 3 dg (aC (dV 1) (aC (dA dG (aC (dV 4) (aC (dV 5) aN))) (aC (dV 2) aN))))) (i8 3 (dA dG (aC (dV 4) (aC (dV 5) aN)))) cw))
  ((List.range' (c.2 - 1) (min (c.2+2) W - (c.2 - 1))).map fun(k:Nat)=>D.int (k:Int)) (nc (brd bd) (cD c) (.int (w:Int)) acc (fz (.int (r:Int))) none)=
  M.ret (.nx (nc (brd bd) (cD c) (.int (w:Int)) (acc++(List.range' (c.2 - 1) (min (c.2+2) W - (c.2 - 1))).flatMap fun k=>if fG w c (r,k) then [cD (r,k)] else []) (fz (.int (r:Int))) none)):=fun r acc Al=>by
  refine gX (fun (k:Nat)=>D.int (k:Int)) (fun acc=>nc (brd bd) (cD c) (.int (w:Int)) acc (fz (.int (r:Int))) none) (fun k=>if fG w c (r,k) then [cD (r,k)] else []) (B:=64) _ acc ?_ fun k hk acc hB=>?_
  ·rw[List.length_append,List.length_flatMap]
   have:∀l:List Nat,(l.map fun k=>(if fG w c (r,k) then [cD (r,k)] else []).length).sum≤l.length:=by
    intro l
    induction l with
    |nil=>simp
    |cons a l ih=>rw[List.map_cons,List.sum_cons,List.length_cons];split<;>simp<;>omega
   have h2:=this (List.range' (c.2 - 1) (min (c.2+2) W - (c.2 - 1)))
   rw[List.length_range'] at h2
   omega
  ·refine⟨nc (brd bd) (cD c) (.int (w:Int)) acc (fz (.int (r:Int))) (fz (.int (k:Int))),rfl,?_⟩
   have ht:cx (aj 3 dg (aC (dV 1) (aC (dA dG (aC (dV 4) (aC (dV 5) aN))) (aC (dV 2) aN)))) (nc (brd bd) (cD c) (.int (w:Int)) acc (fz (.int (r:Int))) (fz (.int (k:Int))))=M.ret (fG w c (r,k)):=
    q0 ((ai (ds:=[cD c,cD (r,k), .int (w:Int)]) rfl rfl).trans (qN hw c (r,k)))
   cases hn:fG w c (r,k) with
   |true=>
    rw[hn] at ht
    rw[hn,if_pos rfl,List.length_append] at hB
    refine(bf (ρ':=nc (brd bd) (cD c) (.int (w:Int)) (acc++[cD (r,k)]) (fz (.int (r:Int))) (fz (.int (k:Int)))) (ez ht ?_)).trans rfl
    show (if acc.length<lim then M.ret (Out.nx (nc (brd bd) (cD c) (.int (w:Int)) (acc++[cD (r,k)]) (fz (.int (r:Int))) (fz (.int (k:Int))))) else M.stuck)=_
    rw[if_pos (by rw[dq];simp at hB;omega)]
   |false=>
    rw[hn] at ht
    refine(bf (ρ':=nc (brd bd) (cD c) (.int (w:Int)) acc (fz (.int (r:Int))) (fz (.int (k:Int)))) (cQ ht rfl)).trans ?_
    simp
    rfl
 have flt:∀r,((List.range' (c.2 - 1) (min (c.2+2) W - (c.2 - 1))).flatMap fun k=>if fG w c (r,k) then [cD (r,k)] else [])=(((List.range' (c.2 - 1) (min (c.2+2) W - (c.2 - 1))).map fun k=>(r,k)).filter (fG w c)).map cD:=fun r=>by
  generalize List.range' (c.2 - 1) (min (c.2+2) W - (c.2 - 1))=l
  induction l with
  |nil=>rfl
  |cons a l ih=>
   rw[List.flatMap_cons,ih,List.map_cons,List.filter_cons]
   cases fG w c (r,a)<;>rfl
 have tot:(List.range' (c.1 - 1) (min (c.1+2) bd.length - (c.1 - 1))).flatMap (fun r=>(((List.range' (c.2 - 1) (min (c.2+2) W - (c.2 - 1))).map fun k=>(r,k)).filter (fG w c)).map cD)=(f_ bd.length W w c).map cD:=by
  unfold f_;rw[List.map_flatMap]
 have outer:=gX (put:=putN 4) (body:=cG [4,5] (d_ (putN 5) (fun ρ=>(aC (dA vT (aC (d2 nj (d2 bg (dV 1) (dC (.int 1))) (dC (.int 1))) (aC (dC (.int 0)) aN))) (aC (dA yR (aC (d2 cO (d2 bg (dV 1) (dC (.int 1))) (dC (.int 2))) (aC (dA a6 (aC (d2 bg (dV 0) (dC (.int 0))) aN)) aN))) aN)) ρ>>=oD) (cG [5] (fK (cx (aj 3 dg (aC (dV 1) (aC (dA dG (aC (dV 4) (aC (dV 5) aN))) (aC (dV 2) aN))))) (i8 3 (dA dG (aC (dV 4) (aC (dV 5) aN)))) cw))))
  (fun (k:Nat)=>D.int (k:Int)) (fun acc=>nc (brd bd) (cD c) (.int (w:Int)) acc none none) (fun r=>(((List.range' (c.2 - 1) (min (c.2+2) W - (c.2 - 1))).map fun k=>(r,k)).filter (fG w c)).map cD) (B:=16) (List.range' (c.1 - 1) (min (c.1+2) bd.length - (c.1 - 1))) []
  (by rw[List.nil_append,tot,List.length_map];have:=p_ bd.length W w c;omega) fun r hr acc hB=>by
   refine⟨nc (brd bd) (cD c) (.int (w:Int)) acc (fz (.int (r:Int))) none,rfl,?_⟩
   have e:=inner r acc (by rw[List.length_append] at hB;omega)
   rw[flt r] at e
   refine(bf (fe (GP (i:=c.2 - 1) (j:=min (c.2+2) W) ?_ ?_ (by omega) (by omega)) e)).trans rfl
   ·exact(bY (xs:=[.int ((c.2:Int) - 1), .int 0]) rfl).trans (Il c.2)
   ·refine(bY (xs:=[.int ((c.2:Int)+2), .int (W:Int)]) ?_).trans (CQ c.2 W)
    exact aT (show d2 cO (d2 bg (dV 1) (dC (.int 1))) (dC (.int 2)) (nc (brd bd) (cD c) (.int (w:Int)) acc (fz (.int (r:Int))) none)=M.ret (.int ((c.2:Int)+2)) from rfl) (aT (hg.len0 rfl) rfl)
 rw[List.nil_append,tot] at outer
 refine aS (ak (ρ':=nc (brd bd) (cD c) (.int (w:Int)) [] none none) rfl (ak (ρ':=nc (brd bd) (cD c) (.int (w:Int)) ((f_ bd.length W w c).map cD) none none) (c9 (fe (GP (i:=c.1 - 1) (j:=min (c.1+2) bd.length) ?_ ?_ (by omega) (by omega)) outer)) ?_))
 ·exact(bY (xs:=[.int ((c.1:Int) - 1), .int 0]) rfl).trans (Il c.1)
 ·refine(bY (xs:=[.int ((c.1:Int)+2), .int (bd.length:Int)]) ?_).trans (CQ c.1 bd.length)
  exact aT (show d2 cO (d2 bg (dV 1) (dC (.int 0))) (dC (.int 2)) (nc (brd bd) (cD c) (.int (w:Int)) [] none none)=M.ret (.int ((c.1:Int)+2)) from rfl) (aT (F9 rfl) rfl)
 ·rfl
def a9(bd:List Str)(W w:Nat)(c:Cell):List Cell:=(f_ bd.length W w c).filter fun x=>decide (lt bd x=lt bd c)
theorem cS{bd:List Str}{W w:Nat}(hw:Ways w){c x:Cell}:x∈a9 bd W w c↔On bd.length W x∧fG w c x=true∧lt bd x=lt bd c:=by
 unfold a9
 rw[List.mem_filter,iU hw,decide_eq_true_eq,and_assoc]
theorem yM(bd:List Str)(W w:Nat)(c:Cell):(a9 bd W w c).length≤9:=Nat.le_trans (List.length_filter_le ..) (p_ ..)
theorem iM{α:Type}{f:D→M (Option D)}(enc:α→D)(p:α→Bool):∀(xs:List α),(∀x∈xs,f (enc x)=M.ret (if p x then some (enc x) else none))→dj f (xs.map enc)=M.ret ((xs.filter p).map enc)
 |[],_=>rfl
 |x::xs,h=>by
  rw[List.map_cons,eW,h x (List.mem_cons_self ..),aq,iM enc p xs fun y hy=>h y (List.mem_cons_of_mem _ hy),List.filter_cons]
  cases p x<;>rfl
theorem nN{bd:List Str}{W w:Nat}(hg:Brd bd W)(hw:Ways w){c:Cell}(hc:On bd.length W c):cg [brd bd,cD c, .int (w:Int)]=M.ret (.lst ((a9 bd W w c).map cD)):=by
 refine aS (ak (ρ':=[fz (brd bd),fz (cD c),fz (.int (w:Int)),fz (sg (lt bd c))]) ((aJ (d:=sg (lt bd c)) ((ai (ds:=[brd bd,cD c]) rfl rfl).trans (cZ hg hc))).trans rfl) (aE ?_))
 refine cE (ds:=(f_ bd.length W w c).map cD) ?_ (iM cD _ _ fun x hx=>?_) (by rw[List.length_map,dq];exact Nat.le_trans (yM bd W w c) (by decide))
 ·show (aj 3 bb _ _>>=lstM)=_
  have e:aj 3 bb (aC (dV 0) (aC (dV 1) (aC (dV 2) aN))) [fz (brd bd),fz (cD c),fz (.int (w:Int)),fz (sg (lt bd c))]=M.ret (.lst ((f_ bd.length W w c).map cD)):=hX hg hw hc
  rw[e]
  rfl
 ·have IC:=(iU hw).mp hx
  rw[vz]
  have e:b9 (d2 mz (aj 2 aL (aC (dV 1) (aC (dV 0) aN))) (dV 4)) (fz (cD x)::[fz (brd bd),fz (cD c),fz (.int (w:Int)),fz (sg (lt bd c))])=M.ret (decide (lt bd x=lt bd c)):=by
   refine eN ?_
   exact(aG (x:=sg (lt bd x)) (y:=sg (lt bd c)) ((ai (ds:=[brd bd,cD x]) rfl rfl).trans (cZ hg IC.1)) rfl).trans (HG _ _)
  rw[e,aq]
  cases decide (lt bd x=lt bd c)<;>rfl
end K1
namespace K1
section
variable{α:Type}[DecidableEq α]
structure Bk (α:Type) where
 ks:List α
 ps:List (Option α)
 fu:List α
def ek(c:α)(s:Bk α)(x:α):Bk α:=if x∈s.ks then s else⟨s.ks++[x],s.ps++[some c],s.fu++[x]⟩
variable(nb:α→List α)
def lx(s:Bk α)(c:α):Bk α:=(nb c).foldl (ek c) s
def cH(s:Bk α)(ring:List α):Bk α:=ring.foldl (lx nb) s
def Rb(a:α):Nat→α→Prop
 |0,x=>x=a
 |k+1,x=>Rb a k x∨∃y,Rb a k y∧x∈nb y
variable{nb}{a:α}
theorem Rb.mono{i j:Nat}{x:α}(h:i≤j)(r:Rb nb a i x):Rb nb a j x:=by
 induction h with
 |refl=>exact r
 |step _ ih=>exact .inl ih
structure Grown (P:α→α→Prop) (s t:Bk α):Prop where
 ex:∃fs:List (α×α),t.ks=s.ks++fs.map (·.1)∧t.ps=s.ps++fs.map (fun p=>some p.2)∧t.fu=s.fu++fs.map (·.1)∧(∀p∈fs,P p.2 p.1)
 nd:s.ks.Nodup→t.ks.Nodup
theorem Grown.refl{P:α→α→Prop}(s:Bk α):Grown P s s:=⟨⟨[],by simp,by simp,by simp,fun _ h=>by cases h⟩,id⟩
theorem Grown.trans{P:α→α→Prop}{s t u:Bk α}(h1:Grown P s t)(h2:Grown P t u):Grown P s u:=by
 obtain⟨fs,a1,a2,a3,a4⟩:=h1.ex
 obtain⟨gs,b1,b2,b3,b4⟩:=h2.ex
 refine⟨⟨fs++gs,by rw[b1,a1];simp,by rw[b2,a2];simp,by rw[b3,a3];simp,fun p hp=>?_⟩,fun h=>h2.nd (h1.nd h)⟩
 rcases List.mem_append.mp hp with h | h
 ·exact a4 p h
 ·exact b4 p h
theorem s_{P:α→α→Prop}{c x:α}(s:Bk α)(h:P c x):Grown P s (ek c s x):=by
 unfold ek
 split
 ·exact Grown.refl s
 ·rename_i hx
  refine⟨⟨[(x,c)],rfl,rfl,rfl,fun p hp=>?_⟩,fun hn=>?_⟩
  ·have:p=(x,c):=by simpa using hp
   subst this;exact h
  ·refine List.nodup_append.mpr ⟨hn,by simp,fun y hy z hz e=>?_⟩
   have hz:z=x:=by simpa using hz
   rw[e,hz] at hy
   exact hx hy
theorem yc{c x y:α}(s:Bk α):y∈(ek c s x).ks↔y∈s.ks∨y=x:=by
 unfold ek
 split
 ·rename_i hx
  exact⟨.inl,fun h=>h.elim id fun e=>by rw[e];exact hx⟩
 ·simp
theorem foldStep{P:α→α→Prop}{c:α}:∀(l:List α) (s:Bk α),(∀x∈l,P c x)→Grown P s (l.foldl (ek c) s)∧∀y,y∈(l.foldl (ek c) s).ks↔y∈s.ks∨y∈l
 |[],s,_=>⟨Grown.refl s,fun y=>by simp⟩
 |x::l,s,h=>by
  obtain⟨h1,h2⟩:=foldStep l (ek c s x) fun y hy=>h y (List.mem_cons_of_mem _ hy)
  refine⟨(s_ s (h x (List.mem_cons_self ..))).trans h1,fun y=>?_⟩
  rw[List.foldl_cons,h2 y,yc]
  simp[or_assoc]
theorem tM{P:α→α→Prop}:∀(l:List α) (s:Bk α),(∀c∈l,∀x∈nb c,P c x)→Grown P s (cH nb s l)∧∀y,y∈(cH nb s l).ks↔y∈s.ks∨∃c∈l,y∈nb c
 |[],s,_=>⟨Grown.refl s,fun y=>by simp[cH]⟩
 |c::l,s,h=>by
  obtain⟨g1,m1⟩:=foldStep (P:=P) (c:=c) (nb c) s (h c (List.mem_cons_self ..))
  obtain⟨g2,m2⟩:=tM l (lx nb s c) fun c' hc=>h c' (List.mem_cons_of_mem _ hc)
  refine⟨g1.trans g2,fun y=>?_⟩
  show y∈(cH nb (lx nb s c) l).ks↔_
  rw[m2 y]
  show (y∈((nb c).foldl (ek c) s).ks∨_)↔_
  rw[m1 y]
  simp[or_assoc]
structure Rng (nb:α→List α) (a:α) (k:Nat) (ks:List α) (ps:List (Option α)) (ring:List α):Prop where
 len:ks.length=ps.length
 nd:ks.Nodup
 mem:∀x,x∈ks↔Rb nb a k x
 rg:∀x,x∈ring↔Rb nb a k x∧∀j,Rb nb a j x→k≤j
 par:∀x p,(x,some p)∈ks.zip ps→x∈nb p∧p∈ks∧∀j,Rb nb a j x→∃i,j=i+1∧Rb nb a i p
 non:∀x,(x,none)∈ks.zip ps→x=a
 sz:k≤ks.length∧(ring≠[]→k+1≤ks.length)
theorem Rng.zero(nb:α→List α)(a:α):Rng nb a 0 [a] [none] [a] where
 len:=rfl
 nd:=by simp
 mem:=fun x=>by simp[Rb]
 rg:=fun x=>by simp[Rb]
 par:=fun x p h=>by simp at h
 non:=fun x h=>by simpa using h
 sz:=⟨by simp,fun _=>by simp⟩
theorem Rng.next{k:Nat}{ks:List α}{ps:List (Option α)}{ring:List α}(h:Rng nb a k ks ps ring)(hr:ring≠[]):Rng nb a (k+1) (cH nb ⟨ks,ps,[]⟩ ring).ks (cH nb ⟨ks,ps,[]⟩ ring).ps (cH nb ⟨ks,ps,[]⟩ ring).fu:=by
 obtain⟨g,m⟩:=tM (nb:=nb) (P:=fun c x=>c∈ring∧x∈nb c) ring ⟨ks,ps,[]⟩ fun c hc x hx=>⟨hc,hx⟩
 obtain⟨fs,e1,e2,e3,e4⟩:=g.ex
 have FG:=g.nd h.nd
 have hm:∀x,x∈(cH nb ⟨ks,ps,[]⟩ ring).ks↔Rb nb a (k+1) x:=fun x=>by
  rw[m x]
  show (x∈ks∨_)↔(Rb nb a k x∨_)
  constructor
  ·rintro(q | ⟨c,hc,hx⟩)
   ·exact .inl ((h.mem x).mp q)
   ·exact .inr ⟨c,((h.rg c).mp hc).1,hx⟩
  ·rintro(q | ⟨y,hy,hx⟩)
   ·exact .inl ((h.mem x).mpr q)
   ·by_cases hk:∀j,Rb nb a j y→k≤j
    ·exact .inr ⟨y,(h.rg y).mpr ⟨hy,hk⟩,hx⟩
    ·refine .inl ((h.mem x).mpr ?_)
     obtain⟨j,hj⟩:=Classical.not_forall.mp hk
     obtain⟨K8,NT⟩:=Classical.not_imp.mp hj
     exact Rb.mono (i:=j+1) (by omega) (.inr ⟨y,K8,hx⟩)
 have zC:(cH nb ⟨ks,ps,[]⟩ ring).ks=ks++fs.map (·.1):=e1
 have Ha:(cH nb ⟨ks,ps,[]⟩ ring).ps=ps++fs.map (fun p=>some p.2):=e2
 have JT:(cH nb ⟨ks,ps,[]⟩ ring).fu=fs.map (·.1):=e3
 have new:∀x,x∈fs.map (·.1)→¬Rb nb a k x:=fun x hx hk=>by
  rw[zC] at FG
  exact(List.nodup_append.mp FG).2.2 x ((h.mem x).mpr hk) x hx rfl
 have IS:∀x,¬Rb nb a k x→∀j,Rb nb a j x→k+1≤j:=fun x hx j hj=>by
  by_cases NU:k+1≤j
  ·exact NU
  ·exact absurd (Rb.mono (by omega) hj) hx
 have IE:(cH nb ⟨ks,ps,[]⟩ ring).ks.zip (cH nb ⟨ks,ps,[]⟩ ring).ps=ks.zip ps++fs.map fun p=>(p.1,some p.2):=by
  rw[zC,Ha,List.zip_append h.len]
  congr 1
  rw[List.zip_map']
 refine⟨?_,FG,hm,fun x=>?_,fun x p hp=>?_,fun x hx=>?_,?_⟩
 ·rw[zC,Ha,List.length_append,List.length_append,List.length_map,List.length_map,h.len]
 ·rw[JT]
  constructor
  ·intro hx
   exact⟨(hm x).mp (by rw[zC];exact List.mem_append_right _ hx),IS x (new x hx)⟩
  ·rintro⟨h1,h2⟩
   have h3:=(hm x).mpr h1
   rw[zC] at h3
   rcases List.mem_append.mp h3 with q | q
   ·have:=h2 k ((h.mem x).mp q)
    omega
   ·exact q
 ·rw[IE] at hp
  rcases List.mem_append.mp hp with q | q
  ·obtain⟨q1,q2,q3⟩:=h.par x p q
   exact⟨q1,by rw[zC];exact List.mem_append_left _ q2,q3⟩
  ·obtain⟨f,hf,e⟩:=List.mem_map.mp q
   cases e
   obtain⟨f1,f2⟩:=e4 f hf
   have hc:=(h.rg f.2).mp f1
   refine⟨f2,by rw[zC];exact List.mem_append_left _ ((h.mem _).mpr hc.1),fun j hj=>?_⟩
   have:=IS f.1 (new f.1 (List.mem_map.mpr ⟨f,hf,rfl⟩)) j hj
   exact⟨j - 1,by omega,Rb.mono (by omega) hc.1⟩
 ·rw[IE] at hx
  rcases List.mem_append.mp hx with q | q
  ·exact h.non x q
  ·obtain⟨f,hf,e⟩:=List.mem_map.mp q
   cases e
 ·have hs:=h.sz.2 hr
  rw[zC,List.length_append,List.length_map]
  refine⟨by omega,fun g0=>?_⟩
  have:fs≠[]:=fun z=>g0 (by rw[JT,z];rfl)
  have:=List.length_pos_iff.mpr this
  omega
theorem Rng.last{k:Nat}{ks:List α}{ps:List (Option α)}(h:Rng nb a k ks ps []):∀x,x∈ks↔∃j,Rb nb a j x:=by
 have none:∀x,¬(Rb nb a k x∧∀j,Rb nb a j x→k≤j):=fun x q=>by
  have:=(h.rg x).mpr q
  cases this
 have hk:∀x,Rb nb a k x→∃i,i<k∧Rb nb a i x:=fun x hx=>by
  by_cases q:∀j,Rb nb a j x→k≤j
  ·exact absurd ⟨hx,q⟩ (none x)
  ·obtain⟨j,hj⟩:=Classical.not_forall.mp q
   obtain⟨K8,NT⟩:=Classical.not_imp.mp hj
   exact⟨j,by omega,K8⟩
 have all:∀j x,Rb nb a j x→Rb nb a k x:=by
  intro j
  induction j with
  |zero=>intro x hx;exact Rb.mono (Nat.zero_le _) hx
  |succ j ih=>
   rintro x (q | ⟨y,hy,hx⟩)
   ·exact ih x q
   ·obtain⟨i,hi,hr⟩:=hk y (ih y hy)
    exact Rb.mono (i:=i+1) (by omega) (.inr ⟨y,hr,hx⟩)
 exact fun x=>⟨fun q=>⟨k,(h.mem x).mp q⟩,fun⟨j,hj⟩=>(h.mem x).mpr (all j x hj)⟩
theorem gb{l U:List α}(hn:l.Nodup)(h:∀x∈l,x∈U):l.length≤U.length:=by
 induction l generalizing U with
 |nil=>simp
 |cons a l ih=>
  rw[List.nodup_cons] at hn
  have hl:∀x∈l,x∈U.erase a:=fun x hx=>by
   have g0:x≠a:=fun z=>hn.1 (by rw[←z];exact hx)
   exact(List.mem_erase_of_ne g0).mpr (h x (List.mem_cons_of_mem _ hx))
  have h1:=ih hn.2 hl
  have h2:=List.length_erase_of_mem (h a (List.mem_cons_self ..))
  have h3:=List.length_pos_of_mem (h a (List.mem_cons_self ..))
  rw[List.length_cons]
  omega
end
end K1
namespace K1
open PySem L2 L3
def keyOf(c:Cell):List Key:=[.inl (c.1:Int), .inl (c.2:Int)]
theorem iQ{a b:Cell}(h:keyOf a=keyOf b):a=b:=by
 unfold keyOf at h
 injection h with h1 h2
 injection h1 with h1
 injection h2 with h2 _
 injection h2 with h2
 exact Prod.ext (Int.ofNat.inj h1) (Int.ofNat.inj h2)
theorem gp(c:Cell):i7 (cD c)=some (keyOf c):=rfl
theorem eS{c:Cell}:∀{ks:List Cell}{ds:List D},c∉ks→eB (ks.map keyOf) ds (keyOf c)=none
 |[],_,_=>by simp[eB]
 |k::ks,[],_=>by simp[eB]
 |k::ks,d::ds,h=>by
  rw[List.map_cons]
  unfold eB
  rw[if_neg (fun z=>h (by rw[iQ z];exact List.mem_cons_self ..))]
  exact eS fun z=>h (List.mem_cons_of_mem _ z)
theorem lj{c:Cell}:∀{ks:List Cell}{ds:List D},ks.length=ds.length→c∈ks→∃d,eB (ks.map keyOf) ds (keyOf c)=some d∧(c,d)∈ks.zip ds
 |[],_,_,h=>by cases h
 |k::ks,[],hl,_=>by simp at hl
 |k::ks,d::ds,hl,h=>by
  rw[List.map_cons]
  unfold eB
  by_cases hk:k=c
  ·subst hk
   rw[if_pos rfl]
   exact⟨d,rfl,by simp⟩
  ·rw[if_neg (fun z=>hk (iQ z))]
   have hc:c∈ks:=by
    rcases List.mem_cons.mp h with q | q
    ·exact absurd q.symm hk
    ·exact q
   obtain⟨d',e1,e2⟩:=lj (ds:=ds) (by simpa using hl) hc
   exact⟨d',e1,by simp[e2]⟩
theorem ro{neg:Bool}{ks:List Cell}{ds:List D}{c:Cell}(hl:ks.length=ds.length):gY neg (cD c) (.dct (ks.map keyOf) ds)=M.ret (.bl (if neg then !decide (c∈ks) else decide (c∈ks))):=by
 show (match (i7 (cD c)).map (eB (ks.map keyOf) ds) with | some o=>M.ret (D.bl (if neg then !o.isSome else o.isSome)) | none=>M.stuck)=_
 rw[gp]
 show M.ret (D.bl (if neg then !(eB (ks.map keyOf) ds (keyOf c)).isSome else(eB (ks.map keyOf) ds (keyOf c)).isSome))=_
 by_cases h:c∈ks
 ·obtain⟨d,e,_⟩:=lj hl h
  rw[e,decide_eq_true h];rfl
 ·rw[eS h,decide_eq_false h];rfl
theorem uD{ks:List Cell}{ds:List D}{c:Cell}{d:D}(h:c∉ks)(hl:ds.length<lim):kU (.dct (ks.map keyOf) ds) (cD c) d=some (.dct ((ks++[c]).map keyOf) (ds++[d])):=by
 show (match i7 (cD c) with | some kk=>if ds.length<lim then some (C.dct (cX (ks.map keyOf) ds kk) (cf (ks.map keyOf) ds kk d)) else none | none=>none)=_
 rw[gp]
 show (if ds.length<lim then some (C.dct (cX (ks.map keyOf) ds (keyOf c)) (cf (ks.map keyOf) ds (keyOf c) d)) else none)=_
 rw[if_pos hl]
 unfold cX cf
 rw[eS h]
 simp
theorem E9{τ:DT}{ρ:aX}{b:Bool}(h:τ (vG ρ)=M.ret b):E8 τ ρ=M.ret b:=by
 unfold E8
 rw[h]
 rfl
theorem HB{δ:DE}{ρ:aX}{d:D}(h:δ (vG ρ)=M.ret d)(hf:xl d=true):HA δ ρ=M.ret d:=by
 unfold HA
 rw[h]
 show ni d=_
 unfold ni
 rw[hf]
 rfl
theorem oX{c:DT}{body:DS}{n:Nat}{ρ ρ':aX}{m:M Out}(h1:c ρ=M.ret true)(h2:body ρ=M.ret (.nx ρ'))(h3:eh c body n ρ'=m):eh c body (n+1) ρ=m:=by
 show (c ρ>>=fun b=>if b then body ρ>>=fun o=>match o with | .nx ρ'=>eh c body n ρ' | .rt d=>M.ret (.rt d) else M.ret (.nx ρ))=_
 rw[h1,aq,if_pos rfl,h2]
 exact h3
theorem uY{c:DT}{body:DS}{n:Nat}{ρ:aX}(h1:c ρ=M.ret false):eh c body (n+1) ρ=M.ret (.nx ρ):=by
 show (c ρ>>=fun b=>if b then body ρ>>=fun o=>match o with | .nx ρ'=>eh c body n ρ' | .rt d=>M.ret (.rt d) else M.ret (.nx ρ))=_
 rw[h1]
 rfl
def A_:Option Cell→D
 |none=> .non
 |some c=>cD c
abbrev zI(ks:List Cell)(ps:List (Option Cell)):C:= .dct (ks.map keyOf) (ps.map A_)
abbrev w_(ks:List Cell)(ps:List (Option Cell)):D:= .dct (ks.map keyOf) (ps.map A_)
abbrev sb(b s w:D)(ks:List Cell)(ps:List (Option Cell))(x4 x5 x6 x7:Option Sl):aX:=[fz b,fz s,fz w,some (.ow (zI ks ps)),x4,x5,x6,x7]
structure Bok (R W:Nat) (s:Bk Cell):Prop where
 len:s.ks.length=s.ps.length
 nd:s.ks.Nodup
 on:∀x∈s.ks,On R W x
 fu:s.fu.length≤s.ks.length
theorem Bok.le{R W:Nat}{s:Bk Cell}(h:Bok R W s):s.ks.length≤R*W:=by
 rw[←cq R W]
 exact gb h.nd fun x hx=>aI.mpr (h.on x hx)
theorem Bok.step{R W:Nat}{s:Bk Cell}(h:Bok R W s){c x:Cell}(hx:On R W x):Bok R W (ek c s x):=by
 unfold ek
 split
 ·exact h
 ·rename_i hn
  refine⟨by simp[h.len],?_,fun y hy=>?_,by simp;exact h.fu⟩
  ·refine List.nodup_append.mpr ⟨h.nd,by simp,fun y hy z hz e=>?_⟩
   have hz:z=x:=by simpa using hz
   rw[e,hz] at hy
   exact hn hy
  ·rcases List.mem_append.mp hy with q | q
   ·exact h.on y q
   ·have:y=x:=by simpa using q
    rw[this];exact hx
def GS:DS:=cG [7] (fK (E8 (b9 (d2 (gY true) (dV 7) (dV 3)))) (aA (gP 3 (dV 7) (dV 6)) (i8 5 (dV 7))) cw)
theorem D9{bd:List Str}{W:Nat}(hg:Brd bd W){a c x:Cell}{w:D}{r:Option Sl}{s:Bk Cell}(h:Bok bd.length W s):
 GS (sb (brd bd) (cD a) w s.ks s.ps r (some (.ow (.lst (s.fu.map cD)))) (fz (cD c)) (fz (cD x)))=M.ret (.nx (sb (brd bd) (cD a) w (ek c s x).ks (ek c s x).ps r (some (.ow (.lst ((ek c s x).fu.map cD)))) (fz (cD c)) none)):=by
 have hle:=h.le
 have hm:bd.length*W≤64:=Nat.mul_le_mul hg.r8 hg.w8
 have ht:E8 (b9 (d2 (gY true) (dV 7) (dV 3))) (sb (brd bd) (cD a) w s.ks s.ps r (some (.ow (.lst (s.fu.map cD)))) (fz (cD c)) (fz (cD x)))=M.ret (!decide (x∈s.ks)):=
  E9 (eN ((aG (x:=cD x) (y:=w_ s.ks s.ps) rfl rfl).trans (ro (neg:=true) (by rw[List.length_map];exact h.len))))
 by_cases hx:x∈s.ks
 ·rw[decide_eq_true hx] at ht
  have e:ek c s x=s:=if_pos hx
  rw[e]
  exact(bf (cQ ht rfl)).trans rfl
 ·rw[decide_eq_false hx] at ht
  have e:ek c s x=⟨s.ks++[x],s.ps++[some c],s.fu++[x]⟩:=if_neg hx
  rw[e]
  refine(bf (ρ':=sb (brd bd) (cD a) w (s.ks++[x]) (s.ps++[some c]) r (some (.ow (.lst ((s.fu++[x]).map cD)))) (fz (cD c)) (fz (cD x))) (ez ht (ak (ρ':=sb (brd bd) (cD a) w (s.ks++[x]) (s.ps++[some c]) r (some (.ow (.lst (s.fu.map cD)))) (fz (cD c)) (fz (cD x))) ?_ ?_))).trans rfl
  ·show (match kU (zI s.ks s.ps) (cD x) (cD c) with | some c'=>M.ret (Out.nx (List.set (sb (brd bd) (cD a) w s.ks s.ps r (some (.ow (.lst (s.fu.map cD)))) (fz (cD c)) (fz (cD x))) 3 (some (.ow c')))) | none=>M.stuck)=_
   rw[uD hx (by rw[List.length_map,←h.len,dq];omega)]
   rw[show s.ps.map A_++[cD c]=(s.ps++[some c]).map A_ by simp[A_]]
   rfl
  ·show (if (s.fu.map cD).length<lim then M.ret (Out.nx (sb (brd bd) (cD a) w (s.ks++[x]) (s.ps++[some c]) r (some (.ow (.lst (s.fu.map cD++[cD x])))) (fz (cD c)) (fz (cD x)))) else M.stuck)=_
   have:=h.fu
   rw[if_pos (by rw[List.length_map,dq];omega)]
   rw[show s.fu.map cD++[cD x]=(s.fu++[x]).map cD by simp]
def GR:DS:=cG [6,7] (d_ (putN 7) (d4 (aj 3 cg (aC (dV 0) (aC (dV 6) (aC (dV 2) aN))))) GS)
theorem xV{bd:List Str}{W w:Nat}(hg:Brd bd W)(hw:Ways w){a c:Cell}(hc:On bd.length W c){r:Option Sl}{s:Bk Cell}(h:Bok bd.length W s):
 Bok bd.length W (lx (a9 bd W w) s c)∧GR (sb (brd bd) (cD a) (.int (w:Int)) s.ks s.ps r (some (.ow (.lst (s.fu.map cD)))) (fz (cD c)) none)=
  M.ret (.nx (sb (brd bd) (cD a) (.int (w:Int)) (lx (a9 bd W w) s c).ks (lx (a9 bd W w) s c).ps r (some (.ow (.lst ((lx (a9 bd W w) s c).fu.map cD)))) none none)):=by
 obtain⟨h1,e⟩:=kD (put:=putN 7) (body:=GS) cD (fun s:Bk Cell=>sb (brd bd) (cD a) (.int (w:Int)) s.ks s.ps r (some (.ow (.lst (s.fu.map cD)))) (fz (cD c)) none) (ek c) (Bok bd.length W) (a9 bd W w c) s h fun s hs x hx=>
  ⟨hs.step ((cS hw).mp hx).1,_,rfl,D9 hg hs⟩
 refine⟨h1,(bf (fe ?_ e)).trans rfl⟩
 show (aj 3 cg (aC (dV 0) (aC (dV 6) (aC (dV 2) aN))) (sb (brd bd) (cD a) (.int (w:Int)) s.ks s.ps r (some (.ow (.lst (s.fu.map cD)))) (fz (cD c)) none)>>=lstM)=_
 have e2:aj 3 cg (aC (dV 0) (aC (dV 6) (aC (dV 2) aN))) (sb (brd bd) (cD a) (.int (w:Int)) s.ks s.ps r (some (.ow (.lst (s.fu.map cD)))) (fz (cD c)) none)=M.ret (.lst ((a9 bd W w c).map cD)):=nN hg hw hc
 rw[e2]
 rfl
def JA:DS:=cG [5,6,7] (aA (su 5) (aA (d_ (putN 6) (d4 (dV 4)) GR) (xU 5 (bz 4 (dV 5)))))
theorem D8{bd:List Str}{W w:Nat}(hg:Brd bd W)(hw:Ways w){a:Cell}{ring:List Cell}(hr:∀c∈ring,On bd.length W c){s:Bk Cell}(h:Bok bd.length W s)(hf:s.fu=[]):
 Bok bd.length W (cH (a9 bd W w) s ring)∧JA (sb (brd bd) (cD a) (.int (w:Int)) s.ks s.ps (fz (.lst (ring.map cD))) none none none)=
  M.ret (.nx (sb (brd bd) (cD a) (.int (w:Int)) (cH (a9 bd W w) s ring).ks (cH (a9 bd W w) s ring).ps (fz (.lst ((cH (a9 bd W w) s ring).fu.map cD))) none none none)):=by
 obtain⟨h1,e⟩:=kD (put:=putN 6) (body:=GR) cD (fun s:Bk Cell=>sb (brd bd) (cD a) (.int (w:Int)) s.ks s.ps (fz (.lst (ring.map cD))) (some (.ow (.lst (s.fu.map cD)))) none none) (lx (a9 bd W w)) (Bok bd.length W) ring s h fun s hs c hc=>
  ⟨(xV (a:=a) (r:=fz (.lst (ring.map cD))) hg hw (hr c hc) hs).1,_,rfl,(xV hg hw (hr c hc) hs).2⟩
 refine⟨h1,(bf (ρ':=sb (brd bd) (cD a) (.int (w:Int)) (cH (a9 bd W w) s ring).ks (cH (a9 bd W w) s ring).ps (fz (.lst ((cH (a9 bd W w) s ring).fu.map cD))) (fz (.lst ((cH (a9 bd W w) s ring).fu.map cD))) none none) ?_).trans rfl⟩
 refine ak (ρ':=sb (brd bd) (cD a) (.int (w:Int)) s.ks s.ps (fz (.lst (ring.map cD))) (some (.ow (.lst []))) none none) rfl (ak (ρ':=sb (brd bd) (cD a) (.int (w:Int)) (cH (a9 bd W w) s ring).ks (cH (a9 bd W w) s ring).ps (fz (.lst (ring.map cD))) (some (.ow (.lst ((cH (a9 bd W w) s ring).fu.map cD)))) none none) ?_ rfl)
 rw[hf] at e
 exact fe rfl e
theorem uL{bd:List Str}{W w:Nat}(hg:Brd bd W)(hw:Ways w){a:Cell}(ha:On bd.length W a):∀(fuel k:Nat) (ks:List Cell) (ps:List (Option Cell)) (ring:List Cell),bd.length*W+2≤fuel+k→Rng (a9 bd W w) a k ks ps ring→(∀x∈ks,On bd.length W x)→
 ∃k' ks' Kk,Rng (a9 bd W w) a k' ks' Kk []∧(∀x∈ks',On bd.length W x)∧eh (cx (dV 4)) JA fuel (sb (brd bd) (cD a) (.int (w:Int)) ks ps (fz (.lst (ring.map cD))) none none none)=M.ret (.nx (sb (brd bd) (cD a) (.int (w:Int)) ks' Kk (fz (.lst [])) none none none))
 |0,k,ks,ps,ring,hf,hR,pd=>by
  have h1:ks.length≤bd.length*W:=by
   rw[←cq bd.length W]
   exact gb hR.nd fun x hx=>aI.mpr (pd x hx)
  have:=hR.sz.1
  omega
 |fuel+1,k,ks,ps,[],hf,hR,pd=>⟨k,ks,ps,hR,pd,uY rfl⟩
 |fuel+1,k,ks,ps,c::ring,hf,hR,pd=>by
  have g0:c::ring≠[]:=by simp
  have hN:=hR.next g0
  have Li:∀x∈c::ring,On bd.length W x:=fun x hx=>pd x ((hR.mem x).mpr ((hR.rg x).mp hx).1)
  obtain⟨hb,e⟩:=D8 (a:=a) hg hw Li (s:=⟨ks,ps,[]⟩) ⟨hR.len,hR.nd,pd,Nat.zero_le _⟩ rfl
  obtain⟨k',ks',Kk,q1,q2,q3⟩:=uL hg hw ha fuel (k+1) _ _ _ (by omega) hN hb.on
  exact⟨k',ks',Kk,q1,q2,oX rfl e q3⟩
theorem oO{bd:List Str}{W w:Nat}(hg:Brd bd W)(hw:Ways w){a:Cell}(ha:On bd.length W a):
 ∃k ks ps,Rng (a9 bd W w) a k ks ps []∧(∀x∈ks,On bd.length W x)∧cj [brd bd,cD a, .int (w:Int)]=M.ret (w_ ks ps):=by
 have hm:bd.length*W≤64:=Nat.mul_le_mul hg.r8 hg.w8
 obtain⟨k,ks,ps,h1,h2,h3⟩:=uL hg hw ha lim 0 [a] [none] [a] (by rw[dq];omega) (Rng.zero _ _) (fun x hx=>(show x=a by simpa using hx)▸ha)
 refine⟨k,ks,ps,h1,h2,aS (ak (ρ':=[fz (brd bd),fz (cD a),fz (.int (w:Int)),some (.ow (zI [a] [none])),none,none,none,none]) rfl (ak (ρ':=sb (brd bd) (cD a) (.int (w:Int)) [a] [none] (fz (.lst [cD a])) none none none) rfl (ak (ρ':=sb (brd bd) (cD a) (.int (w:Int)) ks ps (fz (.lst [])) none none none) (c9 h3) rfl)))⟩
def i_{α:Type}[DecidableEq α](n:Nat)(enc:α→D):Prop:=∀k x y,lA (n+k) (enc x) (enc y)=some (decide (x=y))
theorem xi(n:Nat)(i j:Int):lA n (.int i) (.int j)=some (i==j):=by cases n<;>rfl
theorem xj(n:Nat)(i j:Str):lA n (.str i) (.str j)=some (i==j):=by cases n<;>rfl
theorem ra{α:Type}[DecidableEq α]{enc:α→D}{f:D→D→Option Bool}(h:∀x y,f (enc x) (enc y)=some (decide (x=y))):∀(xs ys:List α),q_ f (xs.map enc) (ys.map enc)=some (decide (xs=ys))
 |[],[]=>rfl
 |[],_::_=>by simp[q_]
 |_::_,[]=>by simp[q_]
 |x::xs,y::ys=>by
  rw[List.map_cons,List.map_cons]
  show (match f (enc x) (enc y),q_ f (xs.map enc) (ys.map enc) with | some b,some r=>some (b&&r) | _,_=>none)=_
  rw[h,ra h xs ys]
  show some (decide (x=y)&&decide (xs=ys))=_
  congr 1
  by_cases h1:x=y<;>by_cases h2:xs=ys<;>simp[h1,h2]
theorem z3:i_ 1 cD:=fun k a b=>by
 rw[Nat.add_comm]
 show (match lA k (.int (a.1:Int)) (.int (b.1:Int)),q_ (lA k) [.int (a.2:Int)] [.int (b.2:Int)] with | some b,some r=>some (b&&r) | _,_=>none)=_
 rw[xi]
 show (match some ((a.1:Int)==(b.1:Int)),(match lA k (.int (a.2:Int)) (.int (b.2:Int)),q_ (lA k) [] [] with | some b,some r=>some (b&&r) | _,_=>none) with | some b,some r=>some (b&&r) | _,_=>none)=_
 rw[xi]
 show some (((a.1:Int)==(b.1:Int))&&(((a.2:Int)==(b.2:Int))&&true))=_
 rw[jY,jY,Bool.and_true]
 congr 1
 obtain⟨a1,a2⟩:=a
 obtain⟨b1,b2⟩:=b
 by_cases h1:a1=b1<;>by_cases h2:a2=b2<;>simp[h1,h2]
theorem mP{α:Type}[DecidableEq α]{enc:α→D}{n:Nat}(h:i_ n enc):i_ (n+1) (fun l:List α=> .lst (l.map enc)):=fun k x y=>by
 rw[show n+1+k=(n+k)+1 by omega]
 exact ra (h k) x y
theorem CH{α:Type}[DecidableEq α]{enc:α→D}{n:Nat}(h:i_ n enc):i_ (n+1) (fun l:List α=> .tup (l.map enc)):=fun k x y=>by
 rw[show n+1+k=(n+k)+1 by omega]
 exact ra (h k) x y
theorem CG:i_ 0 D.str:=fun k x y=>by
 rw[xj]
 congr 1
theorem jK:i_ 1 brd:=CH CG
theorem Fo{α:Type}[DecidableEq α]{enc:α→D}{n:Nat}(h:i_ n enc)(hn:n≤6)(x y:α):mz (enc x) (enc y)=M.ret (.bl (decide (x=y))):=by
 have:=h (6 - n) x y
 rw[show n+(6 - n)=6 by omega] at this
 unfold mz
 rw[this]
theorem kC{α:Type}[DecidableEq α]{enc:α→D}{n:Nat}(h:i_ n enc)(hn:n≤6)(x y:α):pU (enc x) (enc y)=M.ret (.bl (!decide (x=y))):=by
 have:=h (6 - n) x y
 rw[show n+(6 - n)=6 by omega] at this
 unfold pU
 rw[this]
abbrev cL(l:List Cell):D:= .lst (l.map cD)
def ic(c:Cell):List Int:=[(c.1:Int),(c.2:Int)]
def zS(a b:Cell):Bool:=if a.1=b.1 then decide (a.2<b.2) else decide (a.1<b.1)
def CW(k:Cell):List Cell→List Cell
 |[]=>[k]
 |x::r=>if zS k x then k::x::r else x::CW k r
def oK:List Cell→List Cell
 |[]=>[]
 |k::r=>CW k (oK r)
theorem vR(a b:Cell):d6 (ic a) (ic b)=zS a b:=by
 show (if (a.1:Int)=(b.1:Int) then(if (a.2:Int)=(b.2:Int) then false else decide ((a.2:Int)<(b.2:Int))) else decide ((a.1:Int)<(b.1:Int)))=_
 unfold zS
 by_cases h:a.1=b.1
 ·rw[if_pos h,if_pos (by omega)]
  by_cases h2:a.2=b.2
  ·rw[if_pos (by omega),h2];simp
  ·rw[if_neg (by omega)]
   by_cases h3:a.2<b.2
   ·rw[decide_eq_true h3,decide_eq_true (by omega)]
   ·rw[decide_eq_false h3,decide_eq_false (by omega)]
 ·rw[if_neg h,if_neg (by omega)]
  by_cases h3:a.1<b.1
  ·rw[decide_eq_true h3,decide_eq_true (by omega)]
  ·rw[decide_eq_false h3,decide_eq_false (by omega)]
theorem Ay(k:Cell):∀l:List Cell,insI (ic k) (l.map ic)=(CW k l).map ic
 |[]=>rfl
 |x::r=>by
  rw[List.map_cons]
  unfold insI CW
  rw[vR]
  cases zS k x with
  |true=>rfl
  |false=>rw[if_neg (by decide),if_neg (by decide),List.map_cons,Ay k r]
theorem mU:∀l:List Cell,sortI (l.map ic)=(oK l).map ic
 |[]=>rfl
 |k::r=>by
  rw[List.map_cons]
  unfold sortI oK
  rw[mU r,Ay]
theorem rm{a b:Cell}(h:ic a=ic b):a=b:=by
 unfold ic at h
 injection h with h1 h2
 injection h2 with h2 _
 exact Prod.ext (Int.ofNat.inj h1) (Int.ofNat.inj h2)
theorem yQ{x:Cell}{l:List Cell}:x∈oK l↔x∈l:=by
 have h:=gj (x:=ic x) (l:=l.map ic)
 rw[mU] at h
 constructor
 ·intro hx
  obtain⟨y,hy,e⟩:=List.mem_map.mp (h.mp (List.mem_map.mpr ⟨x,hx,rfl⟩))
  rw[←rm e];exact hy
 ·intro hx
  obtain⟨y,hy,e⟩:=List.mem_map.mp (h.mpr (List.mem_map.mpr ⟨x,hx,rfl⟩))
  rw[←rm e];exact hy
def RiseC(l:List Cell):Prop:=l.Pairwise fun a b=>zS a b=true
theorem sq{l:List Cell}:vn (l.map ic)↔RiseC l:=by
 unfold vn RiseC
 rw[List.pairwise_map]
 constructor<;>intro h<;>refine List.Pairwise.imp ?_ h<;>intro a b q
 ·rw[←vR];exact q
 ·rw[vR];exact q
theorem ue{l:List Cell}(h:l.Nodup):(l.map ic).Nodup:=by
 unfold List.Nodup at h⊢
 rw[List.pairwise_map]
 exact List.Pairwise.imp (fun h z=>h (rm z)) h
theorem wF{l:List Cell}(h:l.Nodup):RiseC (oK l):=by
 have:=jG (ue h)
 rw[mU] at this
 exact sq.mp this
theorem k8{a b:List Cell}(ha:RiseC a)(hb:RiseC b)(h:∀x,x∈a↔x∈b):a=b:=by
 have e:=oC (sq.mpr ha) (sq.mpr hb) fun x=>by
  constructor
  ·intro hx
   obtain⟨y,hy,rfl⟩:=List.mem_map.mp hx
   exact List.mem_map.mpr ⟨y,(h y).mp hy,rfl⟩
  ·intro hx
   obtain⟨y,hy,rfl⟩:=List.mem_map.mp hx
   exact List.mem_map.mpr ⟨y,(h y).mpr hy,rfl⟩
 have inj:∀(a b:List Cell),a.map ic=b.map ic→a=b:=by
  intro a
  induction a with
  |nil=>intro b h;cases b with
   |nil=>rfl
   |cons=>simp at h
  |cons x a ih=>intro b h;cases b with
   |nil=>simp at h
   |cons y b=>
    rw[List.map_cons,List.map_cons] at h
    injection h with h1 h2
    rw[rm h1,ih b h2]
 exact inj a b e
theorem RiseC.nodup{l:List Cell}(h:RiseC l):l.Nodup:=by
 refine List.Pairwise.imp ?_ h
 intro a b q z
 subst z
 unfold zS at q
 rw[if_pos rfl] at q
 have:=of_decide_eq_true q
 omega
theorem kG:∀ks:List Cell,e7 (ks.map keyOf)=some (ks.map ic)
 |[]=>rfl
 |k::r=>by
  show (match pY (keyOf k),e7 (r.map keyOf) with | some x,some xs=>some (x::xs) | _,_=>none)=_
  rw[kG r]
  rfl
theorem I9{ks:List Cell}(h:ks.Nodup)(hl:ks.length<64):ie (ks.map ic)=true:=by
 unfold ie
 rw[List.length_map,decide_eq_true (ue h),decide_eq_true hl]
 simp
 intro a b _ z
 cases z
theorem BY{ks:List Cell}{ds:List D}(h:ks.Nodup)(hl:ks.length<64):qH [.dct (ks.map keyOf) ds]=M.ret (cL (oK ks)):=by
 show (match e7 (ks.map keyOf) with | some ks=>if ie ks&&ks.all (fun k=>decide (k.length≤lim)) then M.ret (D.lst ((sortI ks).map tupI)) else M.stuck | none=>M.stuck)=_
 rw[kG]
 show (if ie (ks.map ic)&&(ks.map ic).all (fun k=>decide (k.length≤lim)) then M.ret (D.lst ((sortI (ks.map ic)).map tupI)) else M.stuck)=_
 rw[I9 h hl]
 have:(ks.map ic).all (fun k=>decide (k.length≤lim))=true:=by
  simp
  intro a b _
  show 2≤lim
  decide
 rw[this,Bool.and_true,if_pos rfl,mU,List.map_map]
 rfl
def Cn(bd:List Str)(W w:Nat)(a b:Cell):Prop:=∃j,Rb (a9 bd W w) a j b
theorem Cn.refl{bd:List Str}{W w:Nat}{a:Cell}:Cn bd W w a a:=⟨0,rfl⟩
theorem vS{bd:List Str}{W w:Nat}(hw:Ways w){a b:Cell}(ha:On bd.length W a)(h:b∈a9 bd W w a):a∈a9 bd W w b:=by
 obtain⟨h1,h2,h3⟩:=(cS hw).mp h
 exact(cS hw).mpr ⟨ha,by rw[hZ];exact h2,h3.symm⟩
theorem xT{bd:List Str}{W w:Nat}(hw:Ways w){a b:Cell}(ha:On bd.length W a):∀{j:Nat},Rb (a9 bd W w) a j b→On bd.length W b
 |0,h=>by rw[show b=a from h];exact ha
 |j+1, .inl h=>xT hw ha h
 |j+1, .inr ⟨y,_,hy⟩=>((cS hw).mp hy).1
theorem oA{bd:List Str}{W w:Nat}{a c b:Cell}(h:c∈a9 bd W w a):∀{j:Nat},Rb (a9 bd W w) c j b→Rb (a9 bd W w) a (j+1) b
 |0,q=> .inr ⟨a,rfl,by rw[show b=c from q];exact h⟩
 |j+1, .inl q=> .inl (oA h q)
 |j+1, .inr ⟨y,q,hy⟩=> .inr ⟨y,oA h q,hy⟩
theorem si{bd:List Str}{W w:Nat}(hw:Ways w){a b:Cell}(ha:On bd.length W a):∀{j:Nat},Rb (a9 bd W w) a j b→Rb (a9 bd W w) b j a
 |0,h=>show a=b from(show b=a from h).symm
 |j+1, .inl h=> .inl (si hw ha h)
 |j+1, .inr ⟨y,q,hy⟩=>oA (vS hw (xT hw ha q) hy) (si hw ha q)
theorem oB{bd:List Str}{W w:Nat}{a b c:Cell}{i:Nat}(h:Rb (a9 bd W w) a i b):∀{j:Nat},Rb (a9 bd W w) b j c→Rb (a9 bd W w) a (i+j) c
 |0,q=>by rw[show c=b from q];exact h
 |j+1, .inl q=> .inl (oB h q)
 |j+1, .inr ⟨y,q,hy⟩=> .inr ⟨y,oB h q,hy⟩
theorem kW{bd:List Str}{W w:Nat}(hw:Ways w){a b:Cell}:∀{j:Nat},Rb (a9 bd W w) a j b→lt bd b=lt bd a
 |0,h=>by rw[show b=a from h]
 |j+1, .inl h=>kW hw h
 |j+1, .inr ⟨y,q,hy⟩=>((cS hw).mp hy).2.2.trans (kW hw q)
section
variable{bd:List Str}{W w:Nat}{a b c:Cell}
theorem Cn.on(hw:Ways w)(ha:On bd.length W a)(h:Cn bd W w a b):On bd.length W b:=let ⟨_,q⟩:=h;xT hw ha q
theorem Cn.symm(hw:Ways w)(ha:On bd.length W a)(h:Cn bd W w a b):Cn bd W w b a:=let ⟨j,q⟩:=h;⟨j,si hw ha q⟩
theorem Cn.trans(h:Cn bd W w a b)(h2:Cn bd W w b c):Cn bd W w a c:=let ⟨i,q⟩:=h;let ⟨j,r⟩:=h2;⟨i+j,oB q r⟩
theorem Cn.letter(hw:Ways w)(h:Cn bd W w a b):lt bd b=lt bd a:=let ⟨_,q⟩:=h;kW hw q
theorem Cn.step(h:Cn bd W w a b)(h2:c∈a9 bd W w b):Cn bd W w a c:=let ⟨j,q⟩:=h;⟨j+1, .inr ⟨b,q,h2⟩⟩
end
structure IsPatch (bd:List Str) (W w:Nat) (a:Cell) (P:List Cell):Prop where
 rise:RiseC P
 mem:∀x,x∈P↔Cn bd W w a x
theorem IsPatch.one{bd:List Str}{W w:Nat}{a:Cell}{P Q:List Cell}(h:IsPatch bd W w a P)(h2:IsPatch bd W w a Q):P=Q:=k8 h.rise h2.rise fun x=>(h.mem x).trans (h2.mem x).symm
theorem iL{bd:List Str}{W:Nat}{ks:List Cell}(hn:ks.Nodup)(pd:∀x∈ks,On bd.length W x):ks.length≤bd.length*W:=by
 rw[←cq bd.length W]
 exact gb hn fun x hx=>aI.mpr (pd x hx)
def Hq(w:Nat):List Cell→Bool
 |a::b::r=>fG w a b&&Hq w (b::r)
 |_=>true
structure IsWay (bd:List Str) (W w:Nat) (a b:Cell) (p:List Cell):Prop where
 on:∀x∈p,On bd.length W x
 hd:p.head? =some a
 lst:p.getLast? =some b
 let':∀x∈p,lt bd x=lt bd a
 OZ:Hq w p=true
theorem s9{α:Type}{l:List α}{x:α}:L2.atI (l++[x]) (-1)=some x:=by
 unfold L2.atI AI
 rw[if_neg (by decide)]
 have: -((l++[x]).length:Int)≤ -1:=by simp;omega
 rw[if_pos this]
 have e:((-1:Int)+((l++[x]).length:Int)).toNat=l.length:=by simp;omega
 show (l++[x])[((-1:Int)+((l++[x]).length:Int)).toNat]? =some x
 rw[e]
 simp
theorem IM{l:List Cell}{x:Cell}:di (cL (l++[x])) (.int (-1))=M.ret (cD x):=by
 show (match L2.atI ((l++[x]).map cD) (-1) with | some d=>M.ret d | none=>M.stuck)=_
 rw[List.map_append,show [x].map cD=[cD x] from rfl,s9]
theorem FU{l:List Cell}{i:Nat}{x:Cell}(h:l[i]? =some x):di (cL l) (.int (i:Int))=M.ret (cD x):=by
 show (match L2.atI (l.map cD) (i:Int) with | some d=>M.ret d | none=>M.stuck)=_
 rw[du (x:=cD x) (by rw[List.getElem?_map,h];rfl)]
structure Trail (nb:Cell→List Cell) (b:Cell) (p:List Cell) (x:Cell):Prop where
 hd:p.head? =some x
 lst:p.getLast? =some b
 ch:∀l r u v,p=l++u::v::r→u∈nb v
abbrev wr(bd w a b k t:D):aX:=[fz bd,fz w,fz a,fz b,fz k,fz t]
theorem jo{α:Type}{f:D→M (Option D)}(enc:α→D)(g:α→D):∀(xs:List α),(∀x∈xs,f (enc x)=M.ret (some (g x)))→dj f (xs.map enc)=M.ret (xs.map g)
 |[],_=>rfl
 |x::xs,h=>by
  rw[List.map_cons,eW,h x (List.mem_cons_self ..),aq,jo enc g xs fun y hy=>h y (List.mem_cons_of_mem _ hy)]
  rfl
theorem OF{ρ:aX}{i:Nat}{ds:List D}(h:ρ[i]? =some (fz (.lst ds))):d4 (dV i) ρ=M.ret ds:=by
 unfold d4
 rw[kz h]
 rfl
def bL(ks:List Cell)(c:Cell):List Cell:=if c∈ks then ks else ks++[c]
def bB(l:List Cell):List Cell:=l.foldl bL []
def aH(ks:List Cell):List D:=ks.map fun _=> .bl true
theorem eT{ks:List Cell}{c x:Cell}:x∈bL ks c↔x∈ks∨x=c:=by
 unfold bL
 split
 ·rename_i h
  exact⟨.inl,fun q=>q.elim id fun e=>by rw[e];exact h⟩
 ·simp
theorem jN:∀(l ks:List Cell),(ks.Nodup→(l.foldl bL ks).Nodup)∧(∀x,x∈l.foldl bL ks↔x∈ks∨x∈l)∧(l.foldl bL ks).length≤ks.length+l.length
 |[],ks=>⟨id,fun x=>by simp,by simp⟩
 |c::l,ks=>by
  obtain⟨h1,h2,h3⟩:=jN l (bL ks c)
  refine⟨fun hn=>h1 ?_,fun x=>?_,?_⟩
  ·unfold bL
   split
   ·exact hn
   ·rename_i hc
    refine List.nodup_append.mpr ⟨hn,by simp,fun y hy z hz e=>?_⟩
    have hz:z=c:=by simpa using hz
    rw[e,hz] at hy
    exact hc hy
  ·rw[List.foldl_cons,h2 x,eT]
   simp[or_assoc]
  ·rw[List.foldl_cons,List.length_cons]
   have:(bL ks c).length≤ks.length+1:=by unfold bL;split<;>simp
   omega
theorem iT{l:List Cell}{x:Cell}:x∈bB l↔x∈l:=by
 unfold bB
 rw[(jN l []).2.1 x]
 simp
theorem AS(l:List Cell):(bB l).Nodup:=(jN l []).1 List.nodup_nil
theorem yL(l:List Cell):(bB l).length≤l.length:=by have:=(jN l []).2.2;simpa[bB] using this
theorem qD{k:List Key}:∀{ks:List (List Key)}{l:List Cell},ks.length=l.length→kZ ks (aH l) k (.bl true)=aH l
 |[],[],_=>rfl
 |k'::ks,c::l,h=>by
  show (if k'=k then D.bl true else D.bl true)::kZ ks (aH l) k (.bl true)=_
  rw[qD (by simpa using h)]
  split<;>rfl
 |[],_::_,h=>by simp at h
 |_::_,[],h=>by simp at h
theorem BH{ks:List Cell}{c:Cell}(hl:ks.length<lim):kU (.dct (ks.map keyOf) (aH ks)) (cD c) (.bl true)=some (.dct ((bL ks c).map keyOf) (aH (bL ks c))):=by
 have hlen:(aH ks).length=ks.length:=by simp[aH]
 unfold bL
 by_cases h:c∈ks
 ·rw[if_pos h]
  show (match i7 (cD c) with | some kk=>if (aH ks).length<lim then some (C.dct (cX (ks.map keyOf) (aH ks) kk) (cf (ks.map keyOf) (aH ks) kk (.bl true))) else none | none=>none)=_
  rw[gp]
  show (if (aH ks).length<lim then some (C.dct (cX (ks.map keyOf) (aH ks) (keyOf c)) (cf (ks.map keyOf) (aH ks) (keyOf c) (.bl true))) else none)=_
  rw[if_pos (by rw[hlen];exact hl)]
  obtain⟨d,e,_⟩:=lj (ds:=aH ks) hlen.symm h
  unfold cX cf
  rw[e]
  show some (C.dct (ks.map keyOf) (kZ (ks.map keyOf) (aH ks) (keyOf c) (.bl true)))=_
  rw[qD (by simp)]
 ·rw[if_neg h,uD h (by rw[hlen];exact hl)]
  simp[aH]
abbrev vQ(l:List Cell):D:= .dct ((bB l).map keyOf) (aH (bB l))
theorem p7{l:List Cell}(hl:l.length<4000):fq [cL l]=M.ret (vQ l):=by
 have e:∀(xs ks:List Cell),ks.length+xs.length<4000→forL (putN 2) (cG [2] (gP 1 (dV 2) (dC (.bl true)))) (xs.map cD) [fz (cL l),some (.ow (.dct (ks.map keyOf) (aH ks))),none]=M.ret (.nx [fz (cL l),some (.ow (.dct ((xs.foldl bL ks).map keyOf) (aH (xs.foldl bL ks)))),none]):=by
  intro xs
  induction xs with
  |nil=>intro ks _;rfl
  |cons x xs ih=>
   intro ks hk
   rw[List.length_cons] at hk
   have hle:(bL ks x).length≤ks.length+1:=by unfold bL;split<;>simp
   refine(cF (ρ1:=[fz (cL l),some (.ow (.dct (ks.map keyOf) (aH ks))),fz (cD x)]) (ρ2:=[fz (cL l),some (.ow (.dct ((bL ks x).map keyOf) (aH (bL ks x)))),none]) rfl ?_).trans (ih (bL ks x) (by omega))
   refine(bf (ρ':=[fz (cL l),some (.ow (.dct ((bL ks x).map keyOf) (aH (bL ks x)))),fz (cD x)]) ?_).trans rfl
   show (match kU (.dct (ks.map keyOf) (aH ks)) (cD x) (.bl true) with | some c'=>M.ret (Out.nx [fz (cL l),some (.ow c'),fz (cD x)]) | none=>M.stuck)=_
   rw[BH (by rw[dq];omega)]
 refine aS (ak (ρ':=[fz (cL l),some (.ow (.dct [] [])),none]) rfl (ak (ρ':=[fz (cL l),some (.ow (.dct ((bB l).map keyOf) (aH (bB l)))),none]) (c9 (fe (ds:=l.map cD) rfl (e l [] (by simpa using hl)))) rfl))
section
variable{bd:List Str}{W w:Nat}{a b c:Cell}{p q:List Cell}
end
theorem yl{bd:List Str}{W:Nat}(hg:Brd bd W):iN [brd bd]=M.ret (cL (aK bd.length W)):=
 aS (ak (cz ((ai (ds:=[brd bd]) rfl rfl).trans hg.nb)) (aE ((ai (ds:=[brd bd]) rfl rfl).trans (fN hg))))
theorem IV(a b:Nat):pU (.int (a:Int)) (.int (b:Int))=M.ret (.bl (!(a==b))):=by
 rw[ne_int,jY]
theorem IT(a b:Nat):KC (.int (a:Int)) (.int (b:Int))=M.ret (.bl (decide (b<a))):=by
 show M.ret (D.bl (decide ((b:Int)<(a:Int))))=_
 congr 2
 rw[decide_eq_decide]
 omega
def CF(ks:List Cell)(f:Cell→D):C:= .dct (ks.map keyOf) (ks.map f)
def yu(ks:List Cell)(f:Cell→D):D:= .dct (ks.map keyOf) (ks.map f)
def eO(f:Cell→D)(x:Cell)(d:D):Cell→D:=fun y=>if y=x then d else f y
theorem kg{f:Cell→D}{x:Cell}:∀{ks:List Cell},x∈ks→eB (ks.map keyOf) (ks.map f) (keyOf x)=some (f x)
 |y::ks,h=>by
  show (if keyOf y=keyOf x then some (f y) else eB (ks.map keyOf) (ks.map f) (keyOf x))=_
  by_cases e:y=x
  ·subst e;rw[if_pos rfl]
  ·rw[if_neg (fun z=>e (iQ z))]
   rcases List.mem_cons.mp h with q | q
   ·exact absurd q.symm e
   ·exact kg q
theorem AH{ks:List Cell}{f:Cell→D}{x:Cell}(h:x∈ks):jr (yu ks f) (cD x)=M.ret (f x):=by
 show (match ((i7 (cD x)).map fun k=>eB (ks.map keyOf) (ks.map f) k) with | some (some v)=>M.ret v | _=>M.stuck)=_
 rw[gp]
 show (match some (eB (ks.map keyOf) (ks.map f) (keyOf x)) with | some (some v)=>M.ret v | _=>M.stuck)=_
 rw[kg h]
theorem CJ{ks:List Cell}{f:Cell→D}{x:Cell}{v:D}(h:x∈ks):getM (yu ks f) (cD x) v=M.ret (f x):=by
 show (match ((i7 (cD x)).map fun k=>eB (ks.map keyOf) (ks.map f) k) with | some (some x)=>M.ret x | some none=>M.ret v | none=>M.stuck)=_
 rw[gp]
 show (match some (eB (ks.map keyOf) (ks.map f) (keyOf x)) with | some (some x)=>M.ret x | some none=>M.ret v | none=>M.stuck)=_
 rw[kg h]
theorem Ai{ks:List Cell}{f:Cell→D}{x:Cell}{v:D}(h:x∉ks):getM (yu ks f) (cD x) v=M.ret v:=by
 show (match ((i7 (cD x)).map fun k=>eB (ks.map keyOf) (ks.map f) k) with | some (some x)=>M.ret x | some none=>M.ret v | none=>M.stuck)=_
 rw[gp]
 show (match some (eB (ks.map keyOf) (ks.map f) (keyOf x)) with | some (some x)=>M.ret x | some none=>M.ret v | none=>M.stuck)=_
 rw[eS h]
theorem sm{f:Cell→D}{x:Cell}{d:D}:∀{ks:List Cell},kZ (ks.map keyOf) (ks.map f) (keyOf x) d=ks.map (eO f x d)
 |[]=>rfl
 |y::ks=>by
  show (if keyOf y=keyOf x then d else f y)::kZ (ks.map keyOf) (ks.map f) (keyOf x) d=_
  rw[sm,List.map_cons]
  congr 1
  unfold eO
  by_cases e:y=x
  ·subst e;rw[if_pos rfl,if_pos rfl]
  ·rw[if_neg (fun z=>e (iQ z)),if_neg e]
theorem D2{ks:List Cell}{f:Cell→D}{x:Cell}{d:D}(hl:ks.length<lim):kU (CF ks f) (cD x) d=some (CF (bL ks x) (eO f x d)):=by
 show (match i7 (cD x) with | some kk=>if (ks.map f).length<lim then some (C.dct (cX (ks.map keyOf) (ks.map f) kk) (cf (ks.map keyOf) (ks.map f) kk d)) else none | none=>none)=_
 rw[gp]
 show (if (ks.map f).length<lim then some (C.dct (cX (ks.map keyOf) (ks.map f) (keyOf x)) (cf (ks.map keyOf) (ks.map f) (keyOf x) d)) else none)=_
 rw[if_pos (by rw[List.length_map];exact hl)]
 unfold CF bL cX cf
 by_cases h:x∈ks
 ·rw[kg h,if_pos h]
  show some (C.dct (ks.map keyOf) (kZ (ks.map keyOf) (ks.map f) (keyOf x) d))=_
  rw[sm]
 ·rw[eS h,if_neg h]
  show some (C.dct (ks.map keyOf++[keyOf x]) (ks.map f++[d]))=_
  have e1:ks.map f=ks.map (eO f x d):=List.map_congr_left fun y hy=>by
   unfold eO;rw[if_neg (fun z:y=x=>h (z▸hy))]
  have e2:(ks++[x]).map (eO f x d)=ks.map (eO f x d)++[d]:=by
   rw[List.map_append]
   congr 1
   show [eO f x d x]=[d]
   unfold eO;rw[if_pos rfl]
  rw[List.map_append,e1,e2]
  rfl
theorem xQ{i:Nat}{δk δv:DE}{ρ:aX}{ks:List Cell}{f:Cell→D}{x:Cell}{d:D}(h0:ρ[i]? =some (some (.ow (CF ks f))))(hv:δv ρ=M.ret d)(hk:δk ρ=M.ret (cD x))(hl:ks.length<lim):
 gP i δk δv ρ=M.ret (.nx (ρ.set i (some (.ow (CF (bL ks x) (eO f x d)))))):=by
 unfold gP we
 rw[h0]
 show (δv ρ>>=fun v=>δk ρ>>=fun k=>match kU (CF ks f) k v with | some c'=>M.ret (Out.nx (ρ.set i (some (.ow c')))) | none=>M.stuck)=_
 rw[hv,aq,hk,aq,D2 hl]
def rank(W:Nat)(x:Cell):Nat:=x.1*W+x.2
theorem fW{R W:Nat}{a b:Cell}(ha:On R W a)(hb:On R W b):zS a b=true↔rank W a<rank W b:=by
 unfold zS rank
 have h1:=ha.2
 have h2:=hb.2
 by_cases h:a.1=b.1
 ·rw[if_pos h,decide_eq_true_eq,h];omega
 ·rw[if_neg h,decide_eq_true_eq]
  constructor
  ·intro q
   have:(a.1+1)*W≤b.1*W:=Nat.mul_le_mul_right _ q
   rw[Nat.add_mul,Nat.one_mul] at this
   omega
  ·intro q
   refine Classical.byContradiction fun z=>?_
   have:(b.1+1)*W≤a.1*W:=Nat.mul_le_mul_right _ (by omega)
   rw[Nat.add_mul,Nat.one_mul] at this
   omega
theorem uF{R W:Nat}{a b:Cell}(ha:On R W a)(hb:On R W b)(h:rank W a=rank W b):a=b:=by
 have n1:¬zS a b=true:=fun z=>by have:=(fW ha hb).mp z;omega
 have n2:¬zS b a=true:=fun z=>by have:=(fW hb ha).mp z;omega
 unfold zS at n1 n2
 obtain⟨a1,a2⟩:=a
 obtain⟨b1,b2⟩:=b
 simp only at n1 n2
 by_cases h1:a1=b1
 ·rw[if_pos h1,decide_eq_true_eq] at n1
  rw[if_pos h1.symm,decide_eq_true_eq] at n2
  rw[Prod.mk.injEq];exact⟨h1,by omega⟩
 ·rw[if_neg h1,decide_eq_true_eq] at n1
  rw[if_neg (Ne.symm h1),decide_eq_true_eq] at n2
  omega
section
variable{bd:List Str}{W w:Nat}
structure Lab (bd:List Str) (W w:Nat) (L:Cell→Cell):Prop where
 on:∀x,On bd.length W x→On bd.length W (L x)
 cn:∀x,On bd.length W x→Cn bd W w x (L x)
 le:∀x,On bd.length W x→rank W (L x)≤rank W x
def mu(R W:Nat)(L:Cell→Cell):Nat:=((aK R W).map fun x=>rank W (L x)).sum
end
theorem IK{δ:DE}{ρ:aX}{l:List Cell}(h:δ ρ=M.ret (cL l)):d4 δ ρ=M.ret (l.map cD):=by
 show (δ ρ>>=lstM)=_
 rw[h]
 rfl
theorem fo(R W:Nat):RiseC (aK R W):=by
 unfold RiseC aK cP
 rw[List.pairwise_flatMap]
 constructor
 ·intro r _
  rw[List.pairwise_map]
  exact List.pairwise_lt_range.imp fun h=>by show (if _ then _ else _)=true;rw[if_pos rfl,decide_eq_true_eq];exact h
 ·refine List.pairwise_lt_range.imp fun {a b} h x hx y hy=>?_
  obtain⟨i,_,rfl⟩:=List.mem_map.mp hx
  obtain⟨j,_,rfl⟩:=List.mem_map.mp hy
  show (if a=b then _ else decide (a<b))=true
  rw[if_neg (by omega),decide_eq_true_eq]
  exact h
section
variable{bd:List Str}{W w:Nat}
def Least(bd:List Str)(W w:Nat)(x m:Cell):Prop:=Cn bd W w x m∧∀z,Cn bd W w x z→rank W m≤rank W z
end
theorem HS:((aK 8 8).map fun c=>fw (ic c)).Nodup:=by decide+kernel
theorem qh{α β:Type}{f:α→β}:∀{l:List α},(l.map f).Nodup→∀a∈l,∀b∈l,f a=f b→a=b
 |x::l,h,a,ha,b,hb,e=>by
  rw[List.map_cons,List.nodup_cons] at h
  by_cases h1:a=x
  ·by_cases h2:b=x
   ·rw[h1,h2]
   ·have hb:b∈l:=(List.mem_cons.mp hb).resolve_left h2
    exact absurd (List.mem_map.mpr ⟨b,hb,by rw[←h1];exact e.symm⟩) h.1
  ·have ha:a∈l:=(List.mem_cons.mp ha).resolve_left h1
   by_cases h2:b=x
   ·exact absurd (List.mem_map.mpr ⟨a,ha,by rw[←h2];exact e⟩) h.1
   ·exact qh h.2 a ha b ((List.mem_cons.mp hb).resolve_left h2) e
theorem CL{R W:Nat}(hR:R≤8)(hW:W≤8){l:List Cell}(hn:l.Nodup)(pd:∀x∈l,On R W x):(l.map fun c=>fw (ic c)).Nodup:=by
 have h8:∀x∈l,x∈aK 8 8:=fun x hx=>aI.mpr ⟨by have:=(pd x hx).1;omega,by have:=(pd x hx).2;omega⟩
 rw[List.Nodup,List.pairwise_map]
 refine List.Pairwise.imp_of_mem (fun {a b} ha hb h z=>h ?_) hn
 exact qh HS a (h8 a ha) b (h8 b hb) z
theorem GI{ks:List Cell}{f:Cell→D}{x:Cell}{d:D}:cX (ks.map keyOf) (ks.map f) (keyOf x)=(bL ks x).map keyOf∧cf (ks.map keyOf) (ks.map f) (keyOf x) d=(bL ks x).map (eO f x d):=by
 unfold bL cX cf
 by_cases h:x∈ks
 ·rw[kg h,if_pos h]
  exact⟨rfl,sm⟩
 ·rw[eS h,if_neg h]
  have e1:ks.map f=ks.map (eO f x d):=List.map_congr_left fun y hy=>by
   unfold eO;rw[if_neg (fun z:y=x=>h (z▸hy))]
  have e2:(ks++[x]).map (eO f x d)=ks.map (eO f x d)++[d]:=by
   rw[List.map_append]
   congr 1
   show [eO f x d x]=[d]
   unfold eO;rw[if_pos rfl]
  exact⟨by rw[List.map_append];rfl,by rw[e2,←e1];rfl⟩
theorem nU:∀(l ks:List Cell),bS (ks.map keyOf) (aH ks) (l.map keyOf) (aH l)=((l.foldl bL ks).map keyOf,aH (l.foldl bL ks))
 |[],ks=>rfl
 |x::l,ks=>by
  show bS (cX (ks.map keyOf) (aH ks) (keyOf x)) (cf (ks.map keyOf) (aH ks) (keyOf x) (.bl true)) (l.map keyOf) (aH l)=_
  have h:=GI (ks:=ks) (f:=fun _=>D.bl true) (x:=x) (d:= .bl true)
  have e:eO (fun _=>D.bl true) x (.bl true)=fun _=>D.bl true:=by
   funext y;unfold eO;split<;>rfl
  rw[e] at h
  rw[show aH ks=ks.map (fun _=>D.bl true) from rfl,h.1,h.2]
  exact nU l (bL ks x)
theorem z_{l ks:List Cell}(h:ks.Nodup):(l.foldl bL ks).Nodup:=(jN l ks).1 h
section
open Classical
variable{bd:List Str}{W w:Nat}
noncomputable def aV(bd:List Str)(W w:Nat)(m:Cell):List Cell:=(aK bd.length W).filter fun x=>decide (Cn bd W w m x)
noncomputable def bV(bd:List Str)(W w:Nat)(l:List Cell):List Cell:=l.filter fun x=>decide (Least bd W w x x)
theorem bh(hw:Ways w){m:Cell}(hm:On bd.length W m):IsPatch bd W w m (aV bd W w m):=by
 refine⟨(fo _ _).filter _,fun x=>?_⟩
 unfold aV
 rw[List.mem_filter,aI,decide_eq_true_eq]
 exact⟨fun h=>h.2,fun h=>⟨h.on hw hm,h⟩⟩
theorem Least.on(hw:Ways w){x m:Cell}(hx:On bd.length W x)(h:Least bd W w x m):On bd.length W m:=h.1.on hw hx
theorem Least.move(hw:Ways w){x y m:Cell}(hx:On bd.length W x)(h:Least bd W w x m)(hy:Cn bd W w x y):Least bd W w y m:=
 ⟨(hy.symm hw hx).trans h.1,fun z hz=>h.2 z (hy.trans hz)⟩
theorem Least.one(hw:Ways w){x m n:Cell}(hx:On bd.length W x)(h:Least bd W w x m)(h2:Least bd W w x n):m=n:=
 uF (h.on hw hx) (h2.on hw hx) (Nat.le_antisymm (h.2 n h2.1) (h2.2 m h.1))
theorem Least.self(hw:Ways w){x m:Cell}(hx:On bd.length W x)(h:Least bd W w x m):Least bd W w m m:=h.move hw hx h.1
variable(L:Cell→Cell)
theorem p9(hw:Ways w):∃L:Cell→Cell,∀x,On bd.length W x→Least bd W w x (L x):=by
 have h:∀x,∃m,On bd.length W x→Least bd W w x m:=fun x=>by
  by_cases hx:On bd.length W x
  ·have hP:=bh hw hx
   cases hp:aV bd W w x with
   |nil=>have:=(hP.mem x).mpr Cn.refl;rw[hp] at this;cases this
   |cons m r=>
    rw[hp] at hP
    have hm:=(hP.mem m).mp (List.mem_cons_self ..)
    refine⟨m,fun _=>⟨hm,fun z hz=>?_⟩⟩
    rcases List.mem_cons.mp ((hP.mem z).mpr hz) with rfl | Oz
    ·exact Nat.le_refl _
    ·exact Nat.le_of_lt ((fW (hm.on hw hx) (hz.on hw hx)).mp ((List.pairwise_cons.mp hP.rise).1 z Oz))
  ·exact⟨x,fun z=>absurd z hx⟩
 exact⟨fun x=>Classical.choose (h x),fun x=>Classical.choose_spec (h x)⟩
noncomputable def j6(bd:List Str)(W w:Nat):D:= .lst ((bV bd W w (aK bd.length W)).map fun m=>cL (aV bd W w m))
end
section
open Classical
variable{bd:List Str}{W w:Nat}
def Me:DS:=(cG [4,5] (fK (E8 (b9 (d2 (gY true) (dV 4) (dV 3)))) (aA (bz 5 (dA qH (aC (aj 3 cj (aC (dV 0) (aC (dV 4) (aC (dV 1) aN)))) aN))) (aA (i8 2 (dV 5)) (zj 3 (aj 1 fq (aC (dV 5) aN))))) cw))
noncomputable def ya(bd:List Str)(W w:Nat)(s:List Cell):List D:=(bV bd W w s).map fun m=>cL (aV bd W w m)
noncomputable def Cf(bd:List Str)(W w:Nat)(s ks:List Cell)(x4 x5:Option Sl):aX:=[fz (brd bd),fz (.int (w:Int)),some (.ow (.lst (ya bd W w s))),some (.ow (.dct (ks.map keyOf) (aH ks))),x4,x5]
structure Seen (bd:List Str) (W w:Nat) (s ks:List Cell):Prop where
 nd:ks.Nodup
 on:∀y∈ks,On bd.length W y
 mem:∀y,y∈ks↔∃m∈bV bd W w s,Cn bd W w m y
theorem Cc{i:Nat}{δ:DE}{ρ:aX}{ks l:List Cell}(h0:ρ[i]? =some (some (.ow (.dct (ks.map keyOf) (aH ks)))))(hd:δ ρ=M.ret (vQ l))(hz:ks.length+l.length≤4096)(hh:ks=[]→((bB l).map fun c=>fw (ic c)).Nodup):
 zj i δ ρ=M.ret (.nx (ρ.set i (some (.ow (.dct (((bB l).foldl bL ks).map keyOf) (aH ((bB l).foldl bL ks))))))):=by
 unfold zj we
 rw[h0]
 show (δ ρ>>=fun d=>match Cb (ks.map keyOf) (aH ks) d with | some c'=>M.ret (Out.nx (ρ.set i (some (.ow c')))) | none=>M.stuck)=_
 rw[hd,aq]
 have:Cb (ks.map keyOf) (aH ks) (vQ l)=some (.dct (((bB l).foldl bL ks).map keyOf) (aH ((bB l).foldl bL ks))):=by
  show (match e7 ((bB l).map keyOf) with | some ns=>if (aH ks).length+(aH (bB l)).length≤lim∧((ks.map keyOf).isEmpty=true→(ns.map fw).Nodup) then some (C.dct (bS (ks.map keyOf) (aH ks) ((bB l).map keyOf) (aH (bB l))).1 (bS (ks.map keyOf) (aH ks) ((bB l).map keyOf) (aH (bB l))).2) else none | none=>none)=_
  rw[kG]
  show (if (aH ks).length+(aH (bB l)).length≤lim∧((ks.map keyOf).isEmpty=true→(((bB l).map ic).map fw).Nodup) then some (C.dct (bS (ks.map keyOf) (aH ks) ((bB l).map keyOf) (aH (bB l))).1 (bS (ks.map keyOf) (aH ks) ((bB l).map keyOf) (aH (bB l))).2) else none)=_
  have c1:(aH ks).length+(aH (bB l)).length≤lim:=by
   have:=yL l
   unfold aH
   rw[List.length_map,List.length_map,dq];omega
  have c2:(ks.map keyOf).isEmpty=true→(((bB l).map ic).map fw).Nodup:=fun z=>by
   rw[List.map_map]
   exact hh (by cases ks with | nil=>rfl | cons _ _=>cases z)
  rw[if_pos ⟨c1,c2⟩,nU]
 rw[this]
theorem uR(hg:Brd bd W)(hs:bd.length*W<64)(hw:Ways w){x:Cell}(hx:On bd.length W x){ρ:aX}(h0:dV 0 ρ=M.ret (brd bd))(h1:dV 1 ρ=M.ret (.int (w:Int)))(h4:dV 4 ρ=M.ret (cD x)):
 dA qH (aC (aj 3 cj (aC (dV 0) (aC (dV 4) (aC (dV 1) aN)))) aN) ρ=M.ret (cL (aV bd W w x)):=by
 obtain⟨k,ks,ps,q1,q2,q3⟩:=oO hg hw hx
 have e1:aj 3 cj (aC (dV 0) (aC (dV 4) (aC (dV 1) aN))) ρ=M.ret (w_ ks ps):=(ai (ds:=[brd bd,cD x, .int (w:Int)]) (aT h0 (aT h4 (aT h1 rfl))) rfl).trans q3
 refine(bY (xs:=[w_ ks ps]) (aT e1 rfl)).trans ((BY q1.nd (Nat.lt_of_le_of_lt (iL q1.nd q2) hs)).trans ?_)
 have:oK ks=aV bd W w x:=IsPatch.one ⟨wF q1.nd,fun x=>yQ.trans (q1.last x)⟩ (bh hw hx)
 rw[this]
theorem gw(s:List Cell)(x:Cell):bV bd W w (s++[x])=if Least bd W w x x then bV bd W w s++[x] else bV bd W w s:=by
 unfold bV
 rw[List.filter_append]
 by_cases h:Least bd W w x x
 ·rw[if_pos h,List.filter_cons_of_pos (by rw[decide_eq_true_eq];exact h),List.filter_nil]
 ·rw[if_neg h,List.filter_cons_of_neg (by rw[decide_eq_true_eq];exact h),List.filter_nil,List.append_nil]
theorem Cv(hg:Brd bd W)(hs:bd.length*W<64)(hw:Ways w){L:Cell→Cell}(hL:∀x,On bd.length W x→Least bd W w x (L x)){s r ks:List Cell}{x:Cell}(e:s++x::r=aK bd.length W)(h:Seen bd W w s ks):
 ∃ks',Seen bd W w (s++[x]) ks'∧Me (Cf bd W w s ks (fz (cD x)) none)=M.ret (.nx (Cf bd W w (s++[x]) ks' none none)):=by
 have hx:On bd.length W x:=aI.mp (by rw[←e];simp)
 have Au:=fo bd.length W
 rw[←e] at Au
 have Kb:∀y∈s,On bd.length W y:=fun y hy=>aI.mp (by rw[←e];simp[hy])
 have Li:∀y∈r,On bd.length W y:=fun y hy=>aI.mp (by rw[←e];simp[hy])
 have CM:∀y∈s,rank W y<rank W x:=fun y hy=>(fW (Kb y hy) hx).mp ((List.pairwise_append.mp Au).2.2 y hy x (List.mem_cons_self ..))
 have Fz:∀y∈r,rank W x<rank W y:=fun y hy=>(fW hx (Li y hy)).mp ((List.pairwise_cons.mp (List.pairwise_append.mp Au).2.1).1 y hy)
 have J4:ks.length≤64:=by have:=iL (bd:=bd) (W:=W) h.nd h.on;omega
 have Av:s.length<64:=by
  have:=congrArg List.length e
  rw[cq,List.length_append,List.length_cons] at this
  omega
 have ht:E8 (b9 (d2 (gY true) (dV 4) (dV 3))) (Cf bd W w s ks (fz (cD x)) none)=M.ret (!decide (x∈ks)):=
  E9 (eN ((aG (x:=cD x) (y:= .dct (ks.map keyOf) (aH ks)) rfl rfl).trans (ro (neg:=true) (by simp[aH]))))
 by_cases hl:Least bd W w x x
 ·have Lq:x∉ks:=fun z=>by
   obtain⟨m,hm,hc⟩:=(h.mem x).mp z
   unfold bV at hm
   rw[List.mem_filter,decide_eq_true_eq] at hm
   have h1:=CM m hm.1
   have h2:=hl.2 m (hc.symm hw (Kb m hm.1))
   omega
  rw[decide_eq_false Lq] at ht
  have hP:=bh hw hx (bd:=bd) (W:=W)
  have Fw:∀y∈aV bd W w x,On bd.length W y:=fun y hy=>((hP.mem y).mp hy).on hw hx
  have HP:(aV bd W w x).length≤64:=by have:=iL (bd:=bd) (W:=W) hP.rise.nodup Fw;omega
  have J2:(ya bd W w s).length<lim:=by
   unfold ya
   rw[List.length_map,dq]
   have:=List.length_filter_le (fun x=>decide (Least bd W w x x)) s
   unfold bV
   omega
  refine⟨(bB (aV bd W w x)).foldl bL ks,⟨z_ h.nd,fun y hy=>?_,fun y=>?_⟩,?_⟩
  ·rcases((jN (bB (aV bd W w x)) ks).2.1 y).mp hy with q | q
   ·exact h.on y q
   ·exact Fw y (iT.mp q)
  ·rw[(jN (bB (aV bd W w x)) ks).2.1 y,iT,h.mem y,gw,if_pos hl,hP.mem y]
   constructor
   ·rintro(⟨m,hm,hc⟩ | hc)
    ·exact⟨m,List.mem_append.mpr (.inl hm),hc⟩
    ·exact⟨x,by simp,hc⟩
   ·rintro⟨m,hm,hc⟩
    rcases List.mem_append.mp hm with hm | hm
    ·exact .inl ⟨m,hm,hc⟩
    ·rw[List.mem_singleton.mp hm] at hc;exact .inr hc
  ·have ef:ya bd W w (s++[x])=ya bd W w s++[cL (aV bd W w x)]:=by
    unfold ya
    rw[gw,if_pos hl,List.map_append]
    rfl
   refine(bf (ρ':=[fz (brd bd),fz (.int (w:Int)),some (.ow (.lst (ya bd W w s++[cL (aV bd W w x)]))),some (.ow (.dct (((bB (aV bd W w x)).foldl bL ks).map keyOf) (aH ((bB (aV bd W w x)).foldl bL ks)))),fz (cD x),fz (cL (aV bd W w x))]) (ez ht (ak (ρ':=Cf bd W w s ks (fz (cD x)) (fz (cL (aV bd W w x)))) ((aJ (uR hg hs hw hx rfl rfl rfl)).trans rfl) (ak (ρ':=[fz (brd bd),fz (.int (w:Int)),some (.ow (.lst (ya bd W w s++[cL (aV bd W w x)]))),some (.ow (.dct (ks.map keyOf) (aH ks))),fz (cD x),fz (cL (aV bd W w x))]) ?_ ?_)))).trans ?_
   ·show (if (ya bd W w s).length<lim then M.ret (Out.nx [fz (brd bd),fz (.int (w:Int)),some (.ow (.lst (ya bd W w s++[cL (aV bd W w x)]))),some (.ow (.dct (ks.map keyOf) (aH ks))),fz (cD x),fz (cL (aV bd W w x))]) else M.stuck)=_
    rw[if_pos J2]
   ·exact(Cc (ks:=ks) (l:=aV bd W w x) rfl ((ai (ds:=[cL (aV bd W w x)]) rfl rfl).trans (p7 (by omega))) (by omega) (fun _=>CL hg.r8 hg.w8 (AS _) fun y hy=>Fw y (iT.mp hy))).trans rfl
   ·unfold Cf
    rw[ef]
    rfl
 ·have hm:=hL x hx
  have g0:L x≠x:=fun z=>hl (by rw[z] at hm;exact hm)
  have eZ:rank W (L x)<rank W x:=by
   have h1:=hm.2 x Cn.refl
   have h2:rank W (L x)≠rank W x:=fun z=>g0 (uF (hm.on hw hx) hx z)
   omega
  have N5:L x∈s:=by
   have:L x∈s++x::r:=by rw[e];exact aI.mpr (hm.on hw hx)
   rcases List.mem_append.mp this with q | q
   ·exact q
   ·rcases List.mem_cons.mp q with q | q
    ·exact absurd q g0
    ·have:=Fz _ q;omega
  have Lq:x∈ks:=(h.mem x).mpr ⟨L x,by unfold bV;rw[List.mem_filter,decide_eq_true_eq];exact⟨N5,hm.self hw hx⟩,hm.1.symm hw hx⟩
  rw[decide_eq_true Lq] at ht
  refine⟨ks,⟨h.nd,h.on,fun y=>by rw[gw,if_neg hl];exact h.mem y⟩,?_⟩
  have ef:ya bd W w (s++[x])=ya bd W w s:=by
   unfold ya
   rw[gw,if_neg hl]
  refine(bf (cQ ht rfl)).trans ?_
  unfold Cf
  rw[ef]
  rfl
theorem wZ(hg:Brd bd W)(hs:bd.length*W<64)(hw:Ways w){L:Cell→Cell}(hL:∀x,On bd.length W x→Least bd W w x (L x)):∀(r s ks:List Cell),s++r=aK bd.length W→Seen bd W w s ks→
 ∃ks',forL (putN 4) Me (r.map cD) (Cf bd W w s ks none none)=M.ret (.nx (Cf bd W w (aK bd.length W) ks' none none))
 |[],s,ks,e,h=>by
  rw[List.append_nil] at e
  exact⟨ks,by rw[e];rfl⟩
 |x::r,s,ks,e,h=>by
  obtain⟨Lz,h1,e1⟩:=Cv hg hs hw hL e h
  obtain⟨LA,e2⟩:=wZ hg hs hw hL r (s++[x]) Lz (by rw[List.append_assoc];exact e) h1
  exact⟨LA,(cF rfl e1).trans e2⟩
theorem eC(hg:Brd bd W)(hs:bd.length*W<64)(hw:Ways w):bo [brd bd, .int (w:Int)]=M.ret (j6 bd W w):=by
 obtain⟨L,hL⟩:=p9 (bd:=bd) (W:=W) hw
 obtain⟨ks,e⟩:=wZ hg hs hw hL (aK bd.length W) [] [] rfl ⟨List.nodup_nil,(fun y hy=>(by cases hy)),(fun y=>⟨fun z=>(by cases z),fun⟨m,hm,_⟩=>(by cases hm)⟩)⟩
 refine aS (ak (ρ':=[fz (brd bd),fz (.int (w:Int)),some (.ow (.lst [])),none,none,none]) rfl (ak (ρ':=Cf bd W w [] [] none none) rfl (ak (ρ':=Cf bd W w (aK bd.length W) ks none none) (c9 (fe (ds:=(aK bd.length W).map cD) (IK ((ai (ds:=[brd bd]) rfl rfl).trans (fN hg))) e)) rfl)))
end
structure NumOk (R W:Nat) (Ps:List (List Cell)) (ks:List Cell) (f:Cell→Nat):Prop where
 nd:ks.Nodup
 on:∀y∈ks,On R W y
 num:∀y∈ks,∃P,Ps[f y]? =some P∧y∈P
def M5:DS:=cG [4] (gP 1 (dV 4) (dV 2))
def EV(Ps:List (List Cell))(ks:List Cell)(f:Cell→Nat)(x2 x3 x4:Option Sl):aX:=[fz (.lst (Ps.map cL)),some (.ow (CF ks fun y=> .int (f y:Int))),x2,x3,x4]
theorem pH{ks:List Cell}{x:Cell}:x∈bL ks x:=eT.mpr (.inr rfl)
theorem EW{R W:Nat}(hm:R*W≤64){Ps:List (List Cell)}{i:Nat}{P:List Cell}(hP:Ps[i]? =some P){x3:Option Sl}(pd:∀y∈P,On R W y):∀(l ks:List Cell) (f:Cell→Nat),(∀y∈l,y∈P)→NumOk R W Ps ks f→
 ∃ks' f',NumOk R W Ps ks' f'∧(∀y∈ks,y∈ks')∧(∀y∈l,y∈ks')∧forL (putN 4) M5 (l.map cD) (EV Ps ks f (fz (.int (i:Int))) x3 none)=M.ret (.nx (EV Ps ks' f' (fz (.int (i:Int))) x3 none))
 |[],ks,f,_,h=>⟨ks,f,h,fun y hy=>hy,(fun y hy=>(by cases hy)),rfl⟩
 |x::l,ks,f,hl,h=>by
  have hx:=hl x (List.mem_cons_self ..)
  have J4:ks.length≤64:=by
   have h1:=gb h.nd fun y hy=>aI.mpr (h.on y hy)
   rw[cq] at h1
   omega
  have h1:NumOk R W Ps (bL ks x) (fun y=>if y=x then i else f y):=by
   refine⟨(jN [x] ks).1 h.nd,fun y hy=>?_,fun y hy=>?_⟩
   ·rcases eT.mp hy with q | q
    ·exact h.on y q
    ·rw[q];exact pd x hx
   ·by_cases e:y=x
    ·refine⟨P,?_,by rw[e];exact hx⟩
     show Ps[if y=x then i else f y]? =_
     rw[if_pos e];exact hP
    ·rcases eT.mp hy with q | q
     ·obtain⟨Q,q1,q2⟩:=h.num y q
      refine⟨Q,?_,q2⟩
      show Ps[if y=x then i else f y]? =_
      rw[if_neg e];exact q1
     ·exact absurd q e
  obtain⟨ks',f',a1,a2,a3,a4⟩:=EW hm hP pd l (bL ks x) _ (fun y hy=>hl y (List.mem_cons_of_mem _ hy)) h1
  refine⟨ks',f',a1,fun y hy=>a2 y (eT.mpr (.inl hy)),fun y hy=>?_,?_⟩
  ·rcases List.mem_cons.mp hy with rfl | hy
   ·exact a2 _ pH
   ·exact a3 y hy
  ·refine(cF (ρ1:=EV Ps ks f (fz (.int (i:Int))) x3 (fz (cD x))) rfl ?_).trans a4
   refine(bf ((xQ (ks:=ks) (f:=fun y=> .int (f y:Int)) (x:=x) (d:= .int (i:Int)) rfl rfl rfl (by rw[dq];omega)).trans rfl)).trans ?_
   have ef:eO (fun y=>D.int (f y:Int)) x (.int (i:Int))=fun y=>D.int ((if y=x then i else f y:Nat):Int):=by
    funext y
    unfold eO
    by_cases e:y=x
    ·rw[if_pos e,if_pos e]
    ·rw[if_neg e,if_neg e]
   show M.ret (Out.nx [fz (.lst (Ps.map cL)),some (.ow (CF (bL ks x) (eO (fun y=>D.int (f y:Int)) x (.int (i:Int))))),fz (.int (i:Int)),x3,none])=_
   rw[ef]
   rfl
def JU(q:Nat×List Cell):D:= .tup [.int (q.1:Int),cL q.2]
theorem AV{R W:Nat}(hm:R*W≤64){Ps:List (List Cell)}(pd:∀P∈Ps,∀y∈P,On R W y):∀(qs:List (Nat×List Cell)) (ks:List Cell) (f:Cell→Nat),(∀q∈qs,Ps[q.1]? =some q.2)→NumOk R W Ps ks f→
 ∃ks' f',NumOk R W Ps ks' f'∧(∀y∈ks,y∈ks')∧(∀q∈qs,∀y∈q.2,y∈ks')∧forL (oz [2,3]) (cG [2,3,4] (d_ (putN 4) (d4 (dV 3)) M5)) (qs.map JU) (EV Ps ks f none none none)=M.ret (.nx (EV Ps ks' f' none none none))
 |[],ks,f,_,h=>⟨ks,f,h,fun y hy=>hy,(fun q hq=>(by cases hq)),rfl⟩
 |q::qs,ks,f,hq,h=>by
  have hP:=hq q (List.mem_cons_self ..)
  obtain⟨Lz,f1,a1,a2,a3,a4⟩:=EW hm hP (x3:=fz (cL q.2)) (pd q.2 (List.mem_of_getElem? hP)) q.2 ks f (fun y hy=>hy) h
  obtain⟨LA,f2,b1,b2,b3,b4⟩:=AV hm pd qs Lz f1 (fun q' FJ=>hq q' (List.mem_cons_of_mem _ FJ)) a1
  refine⟨LA,f2,b1,fun y hy=>b2 y (a2 y hy),fun q' FJ y hy=>?_,?_⟩
  ·rcases List.mem_cons.mp FJ with rfl | FJ
   ·exact b2 y (a3 y hy)
   ·exact b3 q' FJ y hy
  ·exact(cF (ρ1:=EV Ps ks f (fz (.int (q.1:Int))) (fz (cL q.2)) none) rfl ((bf (fe (ds:=q.2.map cD) (OF rfl) a4)).trans rfl)).trans b4
theorem yO(Ps:List (List Cell)):(Ps.map cL).mapIdx (fun i d=>D.tup [.int (i:Int),d])=(Ps.zipIdx.map fun q:List Cell×Nat=>(q.2,q.1)).map JU:=by
 apply List.ext_getElem?
 intro i
 simp only[List.getElem?_mapIdx,List.getElem?_map,List.getElem?_zipIdx,Option.map_map,Nat.zero_add]
 cases Ps[i]? <;>simp[JU]
theorem n4{R W:Nat}(hm:R*W≤64){Ps:List (List Cell)}(pd:∀P∈Ps,∀y∈P,On R W y):∃ks f,NumOk R W Ps ks f∧(∀P∈Ps,∀y∈P,y∈ks)∧eG [.lst (Ps.map cL)]=M.ret (yu ks fun y=> .int (f y:Int)):=by
 have hq:∀q∈Ps.zipIdx.map (fun q:List Cell×Nat=>(q.2,q.1)),Ps[q.1]? =some q.2:=fun q hq=>by
  obtain⟨⟨P,i⟩,h1,rfl⟩:=List.mem_map.mp hq
  exact List.mem_zipIdx_iff_getElem?.mp h1
 obtain⟨ks,f,a1,a2,a3,a4⟩:=AV hm pd (Ps.zipIdx.map fun q:List Cell×Nat=>(q.2,q.1)) [] (fun _=>0) hq ⟨List.nodup_nil,(fun y hy=>(by cases hy)),(fun y hy=>(by cases hy))⟩
 refine⟨ks,f,a1,fun P hP y hy=>?_,?_⟩
 ·obtain⟨i,hi,rfl⟩:=List.getElem_of_mem hP
  refine a3 (i,Ps[i]) (List.mem_map.mpr ⟨(Ps[i],i),List.mem_zipIdx_iff_getElem?.mpr (by rw[List.getElem?_eq_getElem hi]),rfl⟩) y hy
 ·refine aS (ak (ρ':=EV Ps [] (fun _=>0) none none none) rfl (ak (ρ':=EV Ps ks f none none none) (c9 (fe (ds:=(Ps.zipIdx.map fun q:List Cell×Nat=>(q.2,q.1)).map JU) ?_ a4)) rfl))
  show M.ret ((Ps.map cL).mapIdx fun i d=>D.tup [.int (i:Int),d])=_
  rw[yO]
section
open Classical
variable{bd:List Str}{W w:Nat}
noncomputable def ar(bd:List Str)(W w:Nat):List (List Cell):=(bV bd W w (aK bd.length W)).map (aV bd W w)
theorem jy:j6 bd W w= .lst ((ar bd W w).map cL):=by
 unfold j6 ar
 rw[List.map_map]
 rfl
theorem dF{m:Cell}(h:m∈bV bd W w (aK bd.length W)):On bd.length W m:=by
 unfold bV at h
 exact aI.mp (List.mem_filter.mp h).1
theorem cU(hw:Ways w):∀P∈ar bd W w,∀y∈P,On bd.length W y:=fun P hP y hy=>by
 unfold ar at hP
 obtain⟨m,hm,rfl⟩:=List.mem_map.mp hP
 exact(((bh hw (dF hm)).mem y).mp hy).on hw (dF hm)
theorem gy(hg:Brd bd W)(hw:Ways w){x:Cell}(hx:On bd.length W x):∃P∈ar bd W w,x∈P:=by
 obtain⟨L,hL⟩:=p9 (bd:=bd) (W:=W) hw
 have hm:=hL x hx
 have Hc:=hm.on hw hx
 refine⟨aV bd W w (L x),List.mem_map.mpr ⟨L x,?_,rfl⟩,((bh hw Hc).mem x).mpr (hm.1.symm hw hx)⟩
 unfold bV
 rw[List.mem_filter,decide_eq_true_eq]
 exact⟨aI.mpr Hc,hm.self hw hx⟩
theorem d5:(ar bd W w).length≤bd.length*W:=by
 unfold ar bV
 rw[List.length_map,←cq bd.length W]
 exact List.length_filter_le ..
theorem ip(hg:Brd bd W)(hs:bd.length*W<64)(hw:Ways w):bN [brd bd, .int (w:Int)]=M.ret (.lst ((ar bd W w).map cL)):=by
 rw[←jy]
 exact aS (ak (cz ((ai (ds:=[brd bd]) rfl rfl).trans hg.nb)) (ak (cz ((ai (ds:=[.int (w:Int)]) rfl rfl).trans hw.nw)) (aE ((ai (ds:=[brd bd, .int (w:Int)]) rfl rfl).trans (eC hg hs hw)))))
theorem eI(hg:Brd bd W)(hs:bd.length*W<64)(hw:Ways w):bw [brd bd, .int (w:Int)]=M.ret (.int ((ar bd W w).length:Int)):=by
 refine aS (ak (cz ((ai (ds:=[brd bd]) rfl rfl).trans hg.nb)) (ak (cz ((ai (ds:=[.int (w:Int)]) rfl rfl).trans hw.nw)) (aE ((bY (xs:=[j6 bd W w]) (aT ((ai (ds:=[brd bd, .int (w:Int)]) rfl rfl).trans (eC hg hs hw)) rfl)).trans ?_))))
 rw[jy]
 show M.ret (D.int (((ar bd W w).map cL).length:Int))=_
 rw[List.length_map]
end
end K1
namespace K1
open PySem L2 L3 HT
def v9(l:List Nat):Str:=⟨l.toArray⟩
theorem gK(l:List Nat):(v9 l).cps.toList=l:=by simp[v9]
theorem C8(l:List Nat):(v9 l).length=l.length:=by simp[v9,Str.length]
theorem vo(x y:Str):(x++y).cps.toList=x.cps.toList++y.cps.toList:=by
 show (x.cps++y.cps).toList=_
 simp
theorem Hw(ds:List D)(d:D):cutD (ds++[d]) none (some (-1))=ds:=by
 unfold cutD
 have e:sIx (ds++[d]).length (ds++[d]).length (some (-1))=ds.length:=by
  show (if (-1:Int)<0 then((-1:Int)+((ds++[d]).length:Int)).toNat else min (-1:Int).toNat (ds++[d]).length)=_
  rw[if_pos (by decide),List.length_append]
  simp
  omega
 rw[e,sIx_none]
 simp
theorem C4(ds:List D)(d:D):di (.lst (ds++[d])) (.int (-1))=M.ret d:=by
 show (match L2.atI (ds++[d]) (-1) with | some d=>M.ret d | none=>M.stuck)=_
 have e:L2.atI (ds++[d]) (-1)=some d:=by
  unfold L2.atI AI
  rw[if_neg (by decide),if_pos (by simp;omega)]
  show (ds++[d])[((-1:Int)+((ds++[d]).length:Int)).toNat]? =_
  have:((-1:Int)+((ds++[d]).length:Int)).toNat=ds.length:=by simp;omega
  rw[this]
  simp
 rw[e]
end K1
namespace K1
open PySem PySem.Spec L2 L3
open PyProof.Rows hiding St
section
open Classical
variable{bd:List Str}{W w:Nat}
theorem De:(bV bd W w (aK bd.length W)).Nodup:=by
 unfold bV
 exact(RiseC.nodup (fo _ _)).filter _
theorem nQ{l:List Cell}{m:Cell}:m∈bV bd W w l↔m∈l∧Least bd W w m m:=by
 unfold bV
 rw[List.mem_filter,decide_eq_true_eq]
theorem t7(hw:Ways w){m x:Cell}(hm:m∈bV bd W w (aK bd.length W))(hx:x∈aV bd W w m):Least bd W w x m:=
 (nQ.mp hm).2.move hw (dF hm) (((bh hw (dF hm)).mem x).mp hx)
theorem qq{i:Nat}{P:List Cell}(h:(ar bd W w)[i]? =some P):∃m,(bV bd W w (aK bd.length W))[i]? =some m∧P=aV bd W w m:=by
 unfold ar at h
 rw[List.getElem?_map] at h
 cases q:(bV bd W w (aK bd.length W))[i]? with
 |none=>rw[q] at h;cases h
 |some m=>rw[q] at h;cases h;exact⟨m,rfl,rfl⟩
theorem AN{i j:Nat}{m:Cell}(h:(bV bd W w (aK bd.length W))[i]? =some m)(h2:(bV bd W w (aK bd.length W))[j]? =some m):i=j:=
 (List.getElem?_inj (List.getElem?_eq_some_iff.mp h).1 De).mp (h.trans h2.symm)
theorem nP{α:Type}{l:List α}{i:Nat}{x:α}(h:l[i]? =some x):x∈l:=List.mem_of_getElem? h
theorem rn(hw:Ways w){i j:Nat}{P Q:List Cell}{x:Cell}(hi:(ar bd W w)[i]? =some P)(hj:(ar bd W w)[j]? =some Q)(hx:x∈P)(hy:x∈Q):i=j:=by
 obtain⟨m,e1,rfl⟩:=qq hi
 obtain⟨n,e2,rfl⟩:=qq hj
 have hm:=nP e1
 have hn:=nP e2
 have pd:On bd.length W x:=(((bh hw (dF hm)).mem x).mp hx).on hw (dF hm)
 have:=(t7 hw hm hx).one hw pd (t7 hw hn hy)
 subst this
 exact AN e1 e2
theorem wg(hw:Ways w){m:Cell}(hm:m∈bV bd W w (aK bd.length W)):∃r,aV bd W w m=m::r:=by
 have ho:=dF hm
 have hP:=bh hw ho
 cases hp:aV bd W w m with
 |nil=>have:=(hP.mem m).mpr Cn.refl;rw[hp] at this;cases this
 |cons a r=>
  refine⟨r,?_⟩
  rw[hp] at hP
  by_cases e:a=m
  ·rw[e]
  ·have Ap:m∈a::r:=(hP.mem m).mpr Cn.refl
   have Ap:m∈r:=by
    cases Ap with
    |head=>exact absurd rfl e
    |tail _ q=>exact q
   have hc:=(hP.mem a).mp (List.mem_cons_self ..)
   have h1:=(fW (hc.on hw ho) ho).mp ((List.pairwise_cons.mp hP.rise).1 m Ap)
   have:=(nQ.mp hm).2.2 a hc
   omega
variable{c:Nat}
theorem qi(hw:Ways w)(i j:Nat):fG w (i,j) (i,j+1)=true:=by
 rcases hw with rfl | rfl
 ·simp[fG,fP]
 ·simp[fG,fP]
theorem ug(hw:Ways w)(i j:Nat):fG w (i,j) (i+1,j)=true:=by
 rcases hw with rfl | rfl
 ·simp[fG,fP]
 ·simp[fG,fP]
end
end K1
namespace K1
open PySem L2 L3 HT
theorem xY:∀l:List Nat,mM (l.map sg)=some (l.map fun c=>(⟨#[c]⟩:Str))
 |[]=>rfl
 |c::r=>by
  show (mM (r.map sg)).map _=_
  rw[xY r]
  rfl
theorem xc:∀l:List Nat,dB (l.map fun c=>(⟨#[c]⟩:Str))=v9 l
 |[]=>rfl
 |c::r=>by
  refine Ed ?_
  show ((⟨#[c]⟩:Str)++dB (r.map fun c=>(⟨#[c]⟩:Str))).cps.toList=_
  rw[vo,xc r,gK,gK]
  rfl
theorem B2:∀l:List Nat,((l.map fun c=>(⟨#[c]⟩:Str)).map (·.length)).sum=l.length
 |[]=>rfl
 |c::r=>by
  show 1+((r.map fun c=>(⟨#[c]⟩:Str)).map (·.length)).sum=_
  rw[B2 r,List.length_cons]
  omega
theorem C5{l:List Nat}(h:l.length≤4096):joinM (.str "") [.lst (l.map sg)]=M.ret (.str (v9 l)):=by
 show (match mM (l.map sg) with | some (xs:List Str)=>if ("":Str).length=0∧(xs.map fun x:Str=>x.length).sum≤lim then M.ret (D.str (dB xs)) else M.stuck | none=>M.stuck)=_
 rw[xY]
 show (if ("":Str).length=0∧((l.map fun c=>(⟨#[c]⟩:Str)).map fun x:Str=>x.length).sum≤lim then M.ret (D.str (dB (l.map fun c=>(⟨#[c]⟩:Str)))) else M.stuck)=_
 rw[if_pos ⟨rfl,by have:=B2 l;rw[dq];exact Nat.le_trans (Nat.le_of_eq this) h⟩,xc]
theorem xq(c:Nat):EN ⟨#[c]⟩=decide (c∈[97,98,99,100,101,102]):=StrLaws.found_one "abcdef" c
abbrev JQ:List Nat:=[97,98,99,100,101,102]
theorem D6{W:Nat}{r:Str}(h:Row W r){c:Nat}(hc:c∈r.cps.toList):c∈[97,98,99,100,101,102]:=by
 have:=h.let' c hc
 rw[xq] at this
 exact of_decide_eq_true this
def Ct(bd:List Str):List Nat:=(bd.map (·.cps.toList)).flatten
theorem t9{bd:List Str}{c:Nat}:c∈Ct bd↔∃r∈bd,c∈r.cps.toList:=by
 unfold Ct
 rw[List.mem_flatten]
 constructor
 ·rintro⟨l,hl,h⟩
  obtain⟨r,hr,rfl⟩:=List.mem_map.mp hl
  exact⟨r,hr,h⟩
 ·rintro⟨r,hr,h⟩
  exact⟨_,List.mem_map.mpr ⟨r,hr,rfl⟩,h⟩
theorem zH{bd:List Str}{W:Nat}(hg:Brd bd W){c:Nat}(h:c∈Ct bd):c∈JQ:=by
 obtain⟨r,hr,h⟩:=t9.mp h
 exact D6 (hg.rows r hr) h
theorem Dc{bd:List Str}{W:Nat}(hg:Brd bd W){c:Cell}(hc:On bd.length W c):lt bd c∈Ct bd:=by
 have h1:c.1<bd.length:=hc.1
 have hr:(bd.getD c.1 ⟨#[]⟩).cps.toList.length=W:=(hg.rows _ (getD_mem h1)).len
 have h2:c.2<(bd.getD c.1 ⟨#[]⟩).cps.toList.length:=by rw[hr];exact hc.2
 refine t9.mpr ⟨_,getD_mem h1,?_⟩
 show ch (bd.getD c.1 ⟨#[]⟩) c.2∈_
 generalize bd.getD c.1 ⟨#[]⟩=r at h2
 unfold ch
 rw[List.getD_eq_getElem?_getD,List.getElem?_eq_getElem h2]
 exact List.getElem_mem h2
theorem Cy{bd:List Str}{i j:Nat}(hi:i<bd.length)(hj:j<bd[i].cps.toList.length):at2 bd i j=bd[i].cps.toList[j]:=by
 unfold at2 ch
 rw[List.getD_eq_getElem?_getD (l:=bd),List.getElem?_eq_getElem hi,Option.getD_some,List.getD_eq_getElem?_getD,List.getElem?_eq_getElem hj,Option.getD_some]
theorem Aj{α:Type}{l:List α}{i:Nat}{x:α}(h:l[i]? =some x)(hi:i<l.length):l[i]=x:=by
 rw[List.getElem?_eq_getElem hi] at h
 exact Option.some.inj h
def yS(R W:Nat)(g:Nat→Nat→Nat):List Str:=(List.range R).map fun i=>v9 ((List.range W).map (g i))
theorem mS(R W:Nat)(g:Nat→Nat→Nat):(yS R W g).length=R:=by simp[yS]
theorem Df{R W:Nat}{g:Nat→Nat→Nat}:∀r∈yS R W g,r.length=W:=fun r hr=>by
 obtain⟨i,_,rfl⟩:=List.mem_map.mp hr
 rw[C8,List.length_map,List.length_range]
theorem F_{R W:Nat}{g:Nat→Nat→Nat}{i j:Nat}(hi:i<R)(hj:j<W):at2 (yS R W g) i j=g i j:=by
 have h1:i<(yS R W g).length:=by rw[mS];exact hi
 have e0:(yS R W g)[i]? =some (v9 ((List.range W).map (g i))):=by
  unfold yS
  rw[List.getElem?_map,List.getElem?_range hi]
  rfl
 have e1:(yS R W g)[i].cps.toList=(List.range W).map (g i):=by rw[Aj e0 h1,gK]
 have h2:j<(yS R W g)[i].cps.toList.length:=by rw[e1,List.length_map,List.length_range];exact hj
 rw[Cy h1 h2]
 have:(yS R W g)[i].cps.toList[j]? =some (g i j):=by rw[e1,List.getElem?_map,List.getElem?_range hj];rfl
 exact Aj this h2
theorem AQ{R W:Nat}{g:Nat→Nat→Nat}(r1:1≤R)(r5:R≤5)(w1:1≤W)(w5:W≤5)(h:∀i j,i<R→j<W→g i j∈JQ):Good (yS R W g) W:=by
 refine⟨by rw[mS];exact r1,by rw[mS];exact r5,w1,w5,fun r hr=>⟨Df r hr,fun c hc=>?_⟩⟩
 obtain⟨i,hi,rfl⟩:=List.mem_map.mp hr
 rw[gK] at hc
 obtain⟨j,hj,rfl⟩:=List.mem_map.mp hc
 exact(xq _).trans (decide_eq_true (h i j (List.mem_range.mp hi) (List.mem_range.mp hj)))
theorem w6{bd:List Str}{W i j:Nat}(hg:Brd bd W)(hi:i<bd.length)(hj:j<W):at2 bd i j∈JQ:=zH hg (Dc (c:=(i,j)) hg ⟨hi,hj⟩)
def pA(bd:List Str)(W:Nat)(some:List Cell)(c:Nat):List Str:=yS bd.length W fun i j=>if (i,j)∈some then c else at2 bd i j
theorem mN{bd:List Str}{W:Nat}(hg:Brd bd W){so:D}{l ks:List Cell}{ds:List D}(hk:fq [so]=M.ret (.dct (ks.map keyOf) ds))(hl:ks.length=ds.length)(hm:∀x,x∈ks↔x∈l)(c:Nat):b6 [brd bd,so,sg c]=M.ret (brd (pA bd W l c)):=by
 have h8:=hg.r8
 have w8:=hg.w8
 have row:∀{i:Nat},i<bd.length→∀{x4 x5:Option Sl},dM AB joinM (dC (.str "")) (aC (bE 0 (d4 (dV 6)) cM (Eu (b9 (d2 (gY false) (dV 0) (dV 4))) (dV 3) (aj 2 aL (aC (dV 1) (aC (dV 0) aN))))) aN) [fz (brd bd),fz so,fz (sg c),fz (.dct (ks.map keyOf) ds),x4,x5,fz (.lst ((cP W i).map cD))]=M.ret (.str (v9 ((List.range W).map fun j=>if (i,j)∈l then c else at2 bd i j))):=by
  intro i hi x4 x5
  have cm:bE 0 (d4 (dV 6)) cM (Eu (b9 (d2 (gY false) (dV 0) (dV 4))) (dV 3) (aj 2 aL (aC (dV 1) (aC (dV 0) aN)))) [fz (brd bd),fz so,fz (sg c),fz (.dct (ks.map keyOf) ds),x4,x5,fz (.lst ((cP W i).map cD))]=M.ret (.lst (((List.range W).map fun j=>if (i,j)∈l then c else at2 bd i j).map sg)):=by
   refine cE (ds:=(cP W i).map cD) rfl ?_ (by simp[dq];omega)
   unfold cP
   rw[List.map_map,List.map_map]
   refine jo (cD∘fun k=>(i,k)) _ _ fun j hj=>?_
   have hj:=List.mem_range.mp hj
   have hc:On bd.length W (i,j):=⟨hi,hj⟩
   rw[ky]
   have e1:b9 (d2 (gY false) (dV 0) (dV 4)) (fz (cD (i,j))::[fz (brd bd),fz so,fz (sg c),fz (.dct (ks.map keyOf) ds),x4,x5,fz (.lst ((cP W i).map cD))])=M.ret (decide ((i,j)∈ks)):=eN ((aG (x:=cD (i,j)) (y:= .dct (ks.map keyOf) ds) rfl rfl).trans (ro hl))
   have e2:Eu (b9 (d2 (gY false) (dV 0) (dV 4))) (dV 3) (aj 2 aL (aC (dV 1) (aC (dV 0) aN))) (fz (cD (i,j))::[fz (brd bd),fz so,fz (sg c),fz (.dct (ks.map keyOf) ds),x4,x5,fz (.lst ((cP W i).map cD))])=M.ret (sg (if (i,j)∈l then c else at2 bd i j)):=by
    rw[Hy e1]
    by_cases h:(i,j)∈l
    ·rw[if_pos h,if_pos (decide_eq_true ((hm _).mpr h))]
     rfl
    ·rw[if_neg h,if_neg (fun z=>h ((hm _).mp (of_decide_eq_true z)))]
     exact(ai (ds:=[brd bd,cD (i,j)]) rfl rfl).trans (cZ hg hc)
   exact(congrArg (· >>=fun y=>M.ret (some y)) e2).trans rfl
  show (if AB (.str "") then((aC _ aN) [fz (brd bd),fz so,fz (sg c),fz (.dct (ks.map keyOf) ds),x4,x5,fz (.lst ((cP W i).map cD))]>>=fun ds=>joinM (.str "") ds) else M.stuck)=_
  rw[if_pos (show AB (.str "")=true from rfl),aT cm (xs:=[]) rfl,aq]
  exact C5 (by simp;omega)
 have lp:=gX (put:=putN 5) (body:=cG [5,6] (aA (bz 6 (aj 2 ba (aC (dV 0) (aC (dV 5) aN)))) (i8 4 (dM AB joinM (dC (.str "")) (aC (bE 0 (d4 (dV 6)) cM (Eu (b9 (d2 (gY false) (dV 0) (dV 4))) (dV 3) (aj 2 aL (aC (dV 1) (aC (dV 0) aN))))) aN))))) (fun (k:Nat)=>D.int (k:Int)) (fun acc=>[fz (brd bd),fz so,fz (sg c),fz (.dct (ks.map keyOf) ds),some (.ow (.lst acc)),none,none]) (fun i=>[.str (v9 ((List.range W).map fun j=>if (i,j)∈l then c else at2 bd i j))]) (B:=100) (List.range bd.length) [] (by
  have:∀l':List Nat,(l'.flatMap fun i=>[D.str (v9 ((List.range W).map fun j=>if (i,j)∈l then c else at2 bd i j))]).length=l'.length:=by
   intro l'
   induction l' with
   |nil=>rfl
   |cons a l' ih=>rw[List.flatMap_cons,List.length_append,ih,List.length_cons];simp;omega
  rw[List.nil_append,this,List.length_range]
  omega) fun i hi acc ha=>by
  have hi:=List.mem_range.mp hi
  refine⟨[fz (brd bd),fz so,fz (sg c),fz (.dct (ks.map keyOf) ds),some (.ow (.lst acc)),fz (.int (i:Int)),none],rfl,?_⟩
  refine(bf (ρ':=[fz (brd bd),fz so,fz (sg c),fz (.dct (ks.map keyOf) ds),some (.ow (.lst (acc++[.str (v9 ((List.range W).map fun j=>if (i,j)∈l then c else at2 bd i j))]))),fz (.int (i:Int)),fz (.lst ((cP W i).map cD))]) (ak (ρ':=[fz (brd bd),fz so,fz (sg c),fz (.dct (ks.map keyOf) ds),some (.ow (.lst acc)),fz (.int (i:Int)),fz (.lst ((cP W i).map cD))]) ((aJ ((ai (ds:=[brd bd, .int (i:Int)]) rfl rfl).trans (fV hg i))).trans rfl) ?_)).trans rfl
  show (dM AB joinM _ _ _>>=fun d=>if acc.length<lim then M.ret (Out.nx _) else M.stuck)=_
  rw[row hi,aq,if_pos (by rw[dq];rw[List.length_append] at ha;simp at ha;omega)]
  rfl
 refine aS (ak (ρ':=[fz (brd bd),fz so,fz (sg c),fz (.dct (ks.map keyOf) ds),none,none,none]) ((aJ ((ai (ds:=[so]) rfl rfl).trans hk)).trans rfl) (ak (ρ':=[fz (brd bd),fz so,fz (sg c),fz (.dct (ks.map keyOf) ds),some (.ow (.lst [])),none,none]) rfl (ak (c9 (fe (GO (n:=bd.length) (F9 (i:=0) rfl) (by omega)) lp)) (aE ?_))))
 refine(bY (xs:=[.lst ((List.range bd.length).flatMap fun i=>[.str (v9 ((List.range W).map fun j=>if (i,j)∈l then c else at2 bd i j))])]) rfl).trans ?_
 show M.ret (D.tup _)=M.ret (D.tup ((pA bd W l c).map D.str))
 unfold pA yS
 rw[List.map_map]
 have:∀l':List Nat,(l'.flatMap fun i=>[D.str (v9 ((List.range W).map fun j=>if (i,j)∈l then c else at2 bd i j))])=l'.map (D.str∘fun i=>v9 ((List.range W).map fun j=>if (i,j)∈l then c else at2 bd i j)):=by
  intro l'
  induction l' with
  |nil=>rfl
  |cons a l' ih=>rw[List.flatMap_cons,ih];rfl
 rw[this]
theorem lq{bd:List Str}{W:Nat}(hg:Brd bd W){l:List Cell}(hl:l.length<4000)(c:Nat):b6 [brd bd,cL l,sg c]=M.ret (brd (pA bd W l c)):=
 mN hg (p7 hl) (by simp[aH]) (fun x=>iT) c
theorem D1{bd:List Str}{W:Nat}{l:List Cell}{c i j:Nat}(hi:i<bd.length)(hj:j<W):at2 (pA bd W l c) i j=if (i,j)∈l then c else at2 bd i j:=F_ hi hj
theorem BF(bd:List Str)(W:Nat)(l:List Cell)(c:Nat):(pA bd W l c).length=bd.length:=mS ..
theorem zi{bd:List Str}{W:Nat}(hG:Good bd W){l:List Cell}{c:Nat}(hc:c∈JQ):Good (pA bd W l c) W:=AQ hG.r1 hG.r5 hG.w1 hG.w5 fun i j hi hj=>by
 split
 ·exact hc
 ·exact w6 hG.brd hi hj
end K1
namespace K1
open PySem L2 L3
section
open Classical
variable{bd:List Str}{W w:Nat}
theorem iS{P:List Cell}{c:Nat}{x:Cell}(hx:On bd.length W x):lt (pA bd W P c) x=if x∈P then c else lt bd x:=by
 show at2 (pA bd W P c) x.1 x.2=_
 rw[D1 hx.1 hx.2]
theorem d9(hw:Ways w){P:List Cell}(hP:P∈ar bd W w){x:Cell}(hx:x∈P):aV bd W w x=P:=by
 obtain⟨m,hm,rfl⟩:=List.mem_map.mp (show P∈(bV bd W w (aK bd.length W)).map (aV bd W w) from hP)
 have Hc:=dF hm
 have h1:=bh hw Hc
 have hc:=(h1.mem x).mp hx
 have h2:=bh hw (hc.on hw Hc)
 exact k8 h2.rise h1.rise fun y=>by
  rw[h2.mem,h1.mem]
  exact⟨fun q=>hc.trans q,fun q=>(hc.symm hw Hc).trans q⟩
theorem e_(hw:Ways w){P:List Cell}(hP:P∈ar bd W w){x y:Cell}(hx:x∈P):y∈P↔Cn bd W w x y:=by
 rw[←d9 hw hP hx]
 exact(bh hw (cU hw P hP x hx)).mem y
theorem iV(hw:Ways w){P Q:List Cell}(hP:P∈ar bd W w)(hQ:Q∈ar bd W w){x:Cell}(h1:x∈P)(h2:x∈Q):P=Q:=(d9 hw hP h1).symm.trans (d9 hw hQ h2)
theorem c0(hw:Ways w){P:List Cell}(hP:P∈ar bd W w):∃m,m∈P∧Least bd W w m m∧On bd.length W m∧∃r,P=m::r:=by
 obtain⟨m,hm,rfl⟩:=List.mem_map.mp (show P∈(bV bd W w (aK bd.length W)).map (aV bd W w) from hP)
 obtain⟨r,hr⟩:=wg hw hm
 exact⟨m,by rw[hr];exact List.mem_cons_self ..,(nQ.mp hm).2,dF hm,r,hr⟩
structure Adj (bd:List Str) (W w:Nat) (P Q:List Cell) (x y:Cell):Prop where
 p:P∈ar bd W w
 q:Q∈ar bd W w
 ne:P≠Q
 xp:x∈P
 yq:y∈Q
 nx:fG 4 x y=true
theorem EY(hw:Ways w){x y:Cell}(h:fG 4 x y=true):fG w x y=true:=by
 rcases hw with rfl | rfl
 ·exact h
 ·exact I8 h
variable{P Q:List Cell}{x y:Cell}
theorem Adj.ox(h:Adj bd W w P Q x y)(hw:Ways w):On bd.length W x:=cU hw P h.p x h.xp
theorem Adj.oy(h:Adj bd W w P Q x y)(hw:Ways w):On bd.length W y:=cU hw Q h.q y h.yq
theorem Adj.yn(h:Adj bd W w P Q x y)(hw:Ways w):y∉P:=fun q=>h.ne (iV hw h.p h.q q h.yq)
theorem Adj.lne(h:Adj bd W w P Q x y)(hw:Ways w):lt bd y≠lt bd x:=fun e=>h.yn hw ((e_ hw h.p h.xp).mpr (Cn.step Cn.refl ((cS hw).mpr ⟨h.oy hw,EY hw h.nx,e⟩)))
theorem Adj.let(h:Adj bd W w P Q x y)(hw:Ways w){z:Cell}(hz:z∈P):lt bd z=lt bd x:=((e_ hw h.p h.xp).mp hz).letter hw
abbrev mC(bd:List Str)(W:Nat)(P:List Cell)(y:Cell):List Str:=pA bd W P (lt bd y)
theorem gr:(mC bd W P y).length=bd.length:=BF ..
theorem vV(hw:Ways w)(hP:P∈ar bd W w){a:Cell}(ha:On bd.length W a):∀{j:Nat}{b:Cell},Rb (a9 bd W w) a j b→Rb (a9 (mC bd W P y) W w) a j b
 |0,b,h=>h
 |j+1,b,h=>h.elim (fun q=> .inl (vV hw hP ha q)) fun⟨z,q1,q2⟩=>by
  have hz:=xT hw ha q1
  have hb:=(cS hw).mp q2
  refine .inr ⟨z,vV hw hP ha q1,(cS hw).mpr ⟨by rw[gr];exact hb.1,hb.2.1,?_⟩⟩
  rw[iS hb.1,iS hz]
  have:b∈P↔z∈P:=⟨fun q=>(e_ hw hP q).mpr ((Cn.step Cn.refl q2).symm hw hz),fun q=>(e_ hw hP q).mpr (Cn.step Cn.refl q2)⟩
  by_cases e:z∈P
  ·rw[if_pos e,if_pos (this.mpr e)]
  ·rw[if_neg e,if_neg (fun q=>e (this.mp q)),hb.2.2]
theorem vU(hw:Ways w)(hP:P∈ar bd W w){a b:Cell}(ha:On bd.length W a)(h:Cn bd W w a b):Cn (mC bd W P y) W w a b:=let ⟨j,q⟩:=h;⟨j,vV hw hP ha q⟩
theorem Adj.join(h:Adj bd W w P Q x y)(hw:Ways w):Cn (mC bd W P y) W w x y:=by
 refine Cn.step Cn.refl ((cS hw).mpr ⟨by rw[gr];exact h.oy hw,EY hw h.nx,?_⟩)
 rw[iS (h.oy hw),iS (h.ox hw),if_pos h.xp,if_neg (h.yn hw)]
theorem tu{α:Type}{p q:α→Bool}:∀{l:List α},(∀x∈l,p x=true→q x=true)→(∃a∈l,q a=true∧p a=false)→(l.filter p).length<(l.filter q).length
 |[],_,h=>by obtain⟨a,ha,_⟩:=h;cases ha
 |b::l,h,⟨a,ha,a1,a2⟩=>by
  have le:(l.filter p).length≤(l.filter q).length:=by
   rw[←List.countP_eq_length_filter,←List.countP_eq_length_filter]
   exact List.countP_mono_left fun x hx=>h x (List.mem_cons_of_mem _ hx)
  rw[List.filter_cons,List.filter_cons]
  rcases List.mem_cons.mp ha with e | ha
  ·subst e
   rw[a1,a2]
   simp
   omega
  ·have ih:=tu (fun x hx=>h x (List.mem_cons_of_mem _ hx)) ⟨a,ha,a1,a2⟩
   have hb:=h b (List.mem_cons_self ..)
   cases hp:p b<;>cases hq:q b
   ·simpa[hp,hq] using ih
   ·simp;omega
   ·rw[hp,hq] at hb;exact absurd (hb rfl) (by simp)
   ·simp;omega
theorem qc:(ar bd W w).length=((aK bd.length W).filter fun x=>decide (Least bd W w x x)).length:=by
 unfold ar bV
 rw[List.length_map]
theorem Adj.fewer(h:Adj bd W w P Q x y)(hw:Ways w):(ar (mC bd W P y) W w).length<(ar bd W w).length:=by
 rw[qc,qc,gr]
 refine tu (fun z hz q=>?_) ?_
 ·have hz:=aI.mp hz
  exact decide_eq_true ⟨Cn.refl,fun u hu=>(of_decide_eq_true q).2 u (vU hw h.p hz hu)⟩
 ·obtain⟨m,m1,m2,m3,_⟩:=c0 hw h.p
  obtain⟨n,n1,n2,n3,_⟩:=c0 hw h.q
  have N4:m≠n:=fun e=>h.ne (iV hw h.p h.q m1 (e▸n1))
  have c:Cn (mC bd W P y) W w m n:=((vU hw h.p m3 ((e_ hw h.p m1).mp h.xp)).trans (h.join hw)).trans (vU hw h.p (h.oy hw) ((e_ hw h.q h.yq).mp n1))
  have OJ:On (mC bd W P y).length W m:=by rw[gr];exact m3
  by_cases q:Least (mC bd W P y) W w m m
  ·refine⟨n,aI.mpr n3,decide_eq_true n2,decide_eq_false fun q2=>N4 ?_⟩
   exact(q.move hw OJ c).one hw (by rw[gr];exact n3) q2
  ·exact⟨m,aI.mpr m3,decide_eq_true m2,decide_eq_false q⟩
theorem Adj.gone(h:Adj bd W w P Q x y)(hw:Ways w):((aK bd.length W).filter fun z=>!decide (lt bd z=lt (mC bd W P y) z))=P:=by
 obtain⟨m,_,_,m3,_⟩:=c0 hw h.p
 have hr:RiseC P:=by rw[←d9 hw h.p h.xp];exact(bh hw (h.ox hw)).rise
 refine k8 ((fo _ _).filter _) hr fun z=>?_
 rw[List.mem_filter,aI,Bool.not_eq_true',decide_eq_false_iff_not]
 constructor
 ·rintro⟨hz,e⟩
  rw[iS hz] at e
  by_cases q:z∈P
  ·exact q
  ·rw[if_neg q] at e;exact absurd rfl e
 ·intro q
  have hz:=cU hw P h.p z q
  refine⟨hz,?_⟩
  rw[iS hz,if_pos q,h.let hw q]
  exact Ne.symm (h.lne hw)
theorem Ak{R:Nat}{p:Cell→Prop}(h:∀u v,On R W u→On R W v→fG 4 u v=true→p u→p v){a b:Cell}(ha:On R W a)(hb:On R W b)(hp:p a):p b:=by
 have dn:∀i j,i+1<R→j<W→(p (i+1,j)↔p (i,j)):=fun i j hi hj=>
  ⟨h _ _ ⟨hi,hj⟩ ⟨Nat.lt_of_succ_lt hi,hj⟩ (by rw[hZ];exact ug (.inl rfl) i j),h _ _ ⟨Nat.lt_of_succ_lt hi,hj⟩ ⟨hi,hj⟩ (ug (.inl rfl) i j)⟩
 have rt:∀i j,i<R→j+1<W→(p (i,j+1)↔p (i,j)):=fun i j hi hj=>
  ⟨h _ _ ⟨hi,hj⟩ ⟨hi,Nat.lt_of_succ_lt hj⟩ (by rw[hZ];exact qi (.inl rfl) i j),h _ _ ⟨hi,Nat.lt_of_succ_lt hj⟩ ⟨hi,hj⟩ (qi (.inl rfl) i j)⟩
 have col:∀i j,i<R→j<W→(p (i,j)↔p (0,j)):=by
  intro i j hi hj
  induction i with
  |zero=>exact Iff.rfl
  |succ i ih=>exact(dn i j hi hj).trans (ih (Nat.lt_of_succ_lt hi))
 have row:∀i j,i<R→j<W→(p (i,j)↔p (i,0)):=by
  intro i j hi hj
  induction j with
  |zero=>exact Iff.rfl
  |succ j ih=>exact(rt i j hi hj).trans (ih (Nat.lt_of_succ_lt hj))
 have all:∀c:Cell,On R W c→(p c↔p (0,0)):=fun c hc=>(col c.1 c.2 hc.1 hc.2).trans (row 0 c.2 (Nat.lt_of_le_of_lt (Nat.zero_le _) hc.1) hc.2)
 exact(all b hb).mpr ((all a ha).mp hp)
theorem BV(hg:Brd bd W)(hw:Ways w){P:List Cell}(hP:P∈ar bd W w)(h1:(ar bd W w).length≠1):∃Q x y,Adj bd W w P Q x y:=by
 obtain⟨m,m1,_,m3,_⟩:=c0 hw hP
 obtain⟨P2,Mw,g0⟩:∃P2∈ar bd W w,P2≠P:=by
  cases hl:ar bd W w with
  |nil=>rw[hl] at hP;cases hP
  |cons a r=>
   cases r with
   |nil=>rw[hl] at h1;exact absurd rfl h1
   |cons b r=>
    have FG:(ar bd W w).Nodup:=by
     rw[List.nodup_iff_pairwise_ne] at*
     refine List.pairwise_iff_getElem.mpr fun i j hi hj tU e=>?_
     have e1:(ar bd W w)[i]? =some (ar bd W w)[i]:=List.getElem?_eq_getElem hi
     have e2:(ar bd W w)[j]? =some (ar bd W w)[i]:=by rw[List.getElem?_eq_getElem hj,e]
     obtain⟨u,u1,_⟩:=c0 hw (List.getElem_mem hi)
     have:=rn hw e1 e2 u1 u1
     omega
    rw[hl] at FG
    have Fy:a≠b:=by
     have:=(List.nodup_cons.mp FG).1
     intro e
     rw[e] at this
     exact this (List.mem_cons_self ..)
    by_cases e:a=P
    ·exact⟨b,by simp,fun q=>Fy (e.trans q.symm)⟩
    ·exact⟨a,by simp,e⟩
 obtain⟨n,n1,_,n3,_⟩:=c0 hw Mw
 have hn:n∉P:=fun q=>g0 (iV hw Mw hP n1 q)
 apply Classical.byContradiction
 intro vJ
 refine hn (Ak (p:=fun z=>z∈P) (fun u v hu hv N_ Ot=>?_) m3 n3 m1)
 apply Classical.byContradiction
 intro Ou
 obtain⟨Q,hQ,MP⟩:=gy hg hw hv
 exact vJ ⟨Q,u,v,hP,hQ,fun e=>Ou (e▸MP),Ot,MP,N_⟩
end
section
open Classical
variable{bd:List Str}{W w:Nat}
def LO:DS:=(cG [5,6] (fK (b9 (d2 Fv (d2 jr (dV 2) (dV 4)) (d2 jr (dV 2) (dV 5)))) (aA (bz 6 (dA dG (aC (d2 jr (dV 2) (dV 4)) (aC (d2 jr (dV 2) (dV 5)) aN)))) (gP 3 (dV 6) (HA (d2 cO (tE (dV 3) (dV 6) (dC (.int 0))) (dC (.int 1)))))) cw))
abbrev xW(bd:List Str)(S:D)(nk:List Cell)(f:Cell→Nat)(ks:List Cell)(g:Cell→Int)(x4 x5 x6:Option Sl):aX:=[fz (brd bd),fz S,fz (yu nk fun y=> .int (f y:Int)),some (.ow (CF ks fun k=> .int (g k))),x4,x5,x6]
structure SOk (bd:List Str) (W n:Nat) (f:Cell→Nat) (ks:List Cell):Prop where
 nd:ks.Nodup
 is:∀k∈ks,∃x y,On bd.length W x∧On bd.length W y∧fG 4 x y=true∧f x<f y∧k=(f x,f y)
theorem Ec{S:D}{nk:List Cell}{f:Cell→Nat}(hn:∀z,On bd.length W z→z∈nk∧f z<64){x y:Cell}(hx:On bd.length W x)(hy:On bd.length W y)(Cq:fG 4 x y=true){ks:List Cell}{g:Cell→Int}(h:SOk bd W 64 f ks):
 ∃ks' g',SOk bd W 64 f ks'∧(∀k∈ks,k∈ks')∧(f x<f y→(f x,f y)∈ks')∧LO (xW bd S nk f ks g (fz (cD x)) (fz (cD y)) none)=M.ret (.nx (xW bd S nk f ks' g' (fz (cD x)) none none)):=by
 have i4:∀{o x6:Option Sl},d2 jr (dV 2) (dV 4) [fz (brd bd),fz S,fz (yu nk fun y=> .int (f y:Int)),o,fz (cD x),fz (cD y),x6]=M.ret (.int (f x:Int)):=(aG (x:=yu nk fun y=> .int (f y:Int)) (y:=cD x) rfl rfl).trans (AH (hn x hx).1)
 have i5:∀{o x6:Option Sl},d2 jr (dV 2) (dV 5) [fz (brd bd),fz S,fz (yu nk fun y=> .int (f y:Int)),o,fz (cD x),fz (cD y),x6]=M.ret (.int (f y:Int)):=(aG (x:=yu nk fun y=> .int (f y:Int)) (y:=cD y) rfl rfl).trans (AH (hn y hy).1)
 have xX:b9 (d2 Fv (d2 jr (dV 2) (dV 4)) (d2 jr (dV 2) (dV 5))) (xW bd S nk f ks g (fz (cD x)) (fz (cD y)) none)=M.ret (decide (f x<f y)):=by
  refine eN ((aG i4 i5).trans ?_)
  show M.ret (D.bl (decide ((f x:Int)<(f y:Int))))=_
  congr 2
  exact decide_eq_decide.mpr (by omega)
 have J4:ks.length<lim:=by
  have:ks.length≤(aK 63 64).length:=gb h.nd fun k hk=>by
   obtain⟨a,b,ha,hb,_,Fy,rfl⟩:=h.is k hk
   have:=(hn b hb).2
   exact aI.mpr ⟨by show f a<63;omega,this⟩
  rw[cq] at this
  rw[dq];omega
 by_cases eZ:f x<f y
 ·rw[decide_eq_true eZ] at xX
  refine⟨bL ks (f x,f y),fun k=>if k=(f x,f y) then(if (f x,f y)∈ks then g (f x,f y) else 0)+1 else g k,⟨(jN [(f x,f y)] ks).1 h.nd,fun k hk=>?_⟩,fun k hk=>eT.mpr (.inl hk),fun _=>pH,?_⟩
  ·rcases eT.mp hk with q | q
   ·exact h.is k q
   ·exact⟨x,y,hx,hy,Cq,eZ,q⟩
  ·have hv:HA (d2 cO (tE (dV 3) (dV 6) (dC (.int 0))) (dC (.int 1))) (xW bd S nk f ks g (fz (cD x)) (fz (cD y)) (fz (cD (f x,f y))))=M.ret (.int ((if (f x,f y)∈ks then g (f x,f y) else 0)+1)):=by
    refine HB ?_ rfl
    have e:tE (dV 3) (dV 6) (dC (.int 0)) (vG (xW bd S nk f ks g (fz (cD x)) (fz (cD y)) (fz (cD (f x,f y)))))=M.ret (.int (if (f x,f y)∈ks then g (f x,f y) else 0)):=by
     show getM (yu ks fun k=> .int (g k)) (cD (f x,f y)) (.int 0)=_
     by_cases q:(f x,f y)∈ks
     ·rw[CJ q,if_pos q]
     ·rw[Ai q,if_neg q]
    exact(aG e (y:= .int 1) rfl).trans rfl
   refine(bf (ρ':=xW bd S nk f (bL ks (f x,f y)) (fun k=>if k=(f x,f y) then(if (f x,f y)∈ks then g (f x,f y) else 0)+1 else g k) (fz (cD x)) (fz (cD y)) (fz (cD (f x,f y)))) (ez xX (ak (ρ':=xW bd S nk f ks g (fz (cD x)) (fz (cD y)) (fz (cD (f x,f y)))) ((aJ ((bY (aT i4 (aT i5 rfl))).trans rfl)).trans rfl) ?_))).trans rfl
   refine(xQ (ks:=ks) (f:=fun k=> .int (g k)) (x:=(f x,f y)) rfl hv rfl J4).trans ?_
   have ef:eO (fun k=>D.int (g k)) (f x,f y) (.int ((if (f x,f y)∈ks then g (f x,f y) else 0)+1))=fun k=>D.int (if k=(f x,f y) then(if (f x,f y)∈ks then g (f x,f y) else 0)+1 else g k):=by
    funext k
    unfold eO
    by_cases e:k=(f x,f y)
    ·rw[if_pos e,if_pos e]
    ·rw[if_neg e,if_neg e]
   rw[ef]
   rfl
 ·rw[decide_eq_false eZ] at xX
  exact⟨ks,g,h,fun k hk=>hk,fun q=>absurd q eZ,(bf (cQ xX rfl)).trans rfl⟩
theorem E6{S:D}{nk:List Cell}{f:Cell→Nat}(hn:∀z,On bd.length W z→z∈nk∧f z<64){x:Cell}(hx:On bd.length W x):∀(l:List Cell) (ks:List Cell) (g:Cell→Int),(∀y∈l,On bd.length W y∧fG 4 x y=true)→SOk bd W 64 f ks→
 ∃ks' g',SOk bd W 64 f ks'∧(∀k∈ks,k∈ks')∧(∀y∈l,f x<f y→(f x,f y)∈ks')∧forL (putN 5) LO (l.map cD) (xW bd S nk f ks g (fz (cD x)) none none)=M.ret (.nx (xW bd S nk f ks' g' (fz (cD x)) none none))
 |[],ks,g,_,h=>⟨ks,g,h,fun k hk=>hk,(fun y hy=>(by cases hy)),rfl⟩
 |y::l,ks,g,hl,h=>by
  obtain⟨y1,y2⟩:=hl y (List.mem_cons_self ..)
  obtain⟨k1,g1,a1,a2,a3,a4⟩:=Ec (S:=S) (g:=g) hn hx y1 y2 h
  obtain⟨k2,g2,b1,b2,b3,b4⟩:=E6 (S:=S) hn hx l k1 g1 (fun z hz=>hl z (List.mem_cons_of_mem _ hz)) a1
  refine⟨k2,g2,b1,fun k hk=>b2 k (a2 k hk),fun z hz q=>?_,(cF rfl a4).trans b4⟩
  rcases List.mem_cons.mp hz with e | hz
  ·subst e;exact b2 _ (a3 q)
  ·exact b3 z hz q
theorem BZ(hg:Brd bd W){S:D}{nk:List Cell}{f:Cell→Nat}(hn:∀z,On bd.length W z→z∈nk∧f z<64):∀(l:List Cell) (ks:List Cell) (g:Cell→Int),(∀x∈l,On bd.length W x)→SOk bd W 64 f ks→
 ∃ks' g',SOk bd W 64 f ks'∧(∀k∈ks,k∈ks')∧(∀x∈l,∀y,On bd.length W y→fG 4 x y=true→f x<f y→(f x,f y)∈ks')∧
  forL (putN 4) (cG [4,5,6] (d_ (putN 5) (d4 (aj 3 bb (aC (dV 0) (aC (dV 4) (aC (dC (.int 4)) aN))))) LO)) (l.map cD) (xW bd S nk f ks g none none none)=M.ret (.nx (xW bd S nk f ks' g' none none none))
 |[],ks,g,_,h=>⟨ks,g,h,fun k hk=>hk,(fun y hy=>(by cases hy)),rfl⟩
 |x::l,ks,g,hl,h=>by
  have hx:=hl x (List.mem_cons_self ..)
  have Ln:Ways 4:= .inl rfl
  obtain⟨k1,g1,a1,a2,a3,a4⟩:=E6 (S:=S) hn hx (f_ bd.length W 4 x) ks g (fun y hy=>(iU Ln).mp hy) h
  obtain⟨k2,g2,b1,b2,b3,b4⟩:=BZ hg (S:=S) hn l k1 g1 (fun z hz=>hl z (List.mem_cons_of_mem _ hz)) a1
  refine⟨k2,g2,b1,fun k hk=>b2 k (a2 k hk),fun z hz y hy q1 q2=>?_,(cF (ρ1:=xW bd S nk f ks g (fz (cD x)) none none) (ρ2:=xW bd S nk f k1 g1 none none none) rfl ((bf (fe (ds:=(f_ bd.length W 4 x).map cD) ?_ a4)).trans rfl)).trans b4⟩
  ·rcases List.mem_cons.mp hz with e | hz
   ·subst e;exact b2 _ (a3 y ((iU Ln).mpr ⟨hy,q1⟩) q2)
   ·exact b3 z hz y hy q1 q2
  ·show (aj 3 bb (aC (dV 0) (aC (dV 4) (aC (dC (.int 4)) aN))) _>>=lstM)=_
   rw[(ai (ds:=[brd bd,cD x, .int ((4:Nat):Int)]) rfl rfl:aj 3 bb (aC (dV 0) (aC (dV 4) (aC (dC (.int 4)) aN))) _=_),hX hg Ln hx]
   rfl
theorem wC(hg:Brd bd W)(hs:bd.length*W<64)(hw:Ways w):∃(f:Cell→Nat) (ks:List Cell) (g:Cell→Int),(∀x,On bd.length W x→∃P,(ar bd W w)[f x]? =some P∧x∈P)∧SOk bd W 64 f ks∧(∀x y,On bd.length W x→On bd.length W y→fG 4 x y=true→f x<f y→(f x,f y)∈ks)∧
 bZ [brd bd, .lst ((ar bd W w).map cL)]=M.ret (yu ks fun k=> .int (g k)):=by
 obtain⟨nk,f,h1,h2,h3⟩:=n4 (R:=bd.length) (W:=W) (Nat.le_of_lt hs) (cU (bd:=bd) (W:=W) (w:=w) hw)
 have hf:∀x,On bd.length W x→x∈nk∧∃P,(ar bd W w)[f x]? =some P∧x∈P:=fun x hx=>by
  obtain⟨P,p1,p2⟩:=gy hg hw hx
  have:=h2 P p1 x p2
  exact⟨this,h1.num x this⟩
 have hl:=d5 (bd:=bd) (W:=W) (w:=w)
 obtain⟨ks,g,a1,a2,a3,a4⟩:=BZ hg (S:= .lst ((ar bd W w).map cL)) (nk:=nk) (f:=f) (fun z hz=>⟨(hf z hz).1,by
  obtain⟨P,e,_⟩:=(hf z hz).2
  have:=(List.getElem?_eq_some_iff.mp e).1
  omega⟩) (aK bd.length W) [] (fun _=>0) (fun x hx=>aI.mp hx) ⟨List.nodup_nil,(fun k hk=>(by cases hk))⟩
 refine⟨f,ks,g,fun x hx=>(hf x hx).2,a1,fun x y hx hy=>a3 x (aI.mpr hx) y hy,?_⟩
 refine aS (ak (ρ':=[fz (brd bd),fz (.lst ((ar bd W w).map cL)),fz (yu nk fun y=> .int (f y:Int)),none,none,none,none]) ((aJ ((ai (ds:=[.lst ((ar bd W w).map cL)]) rfl rfl).trans h3)).trans rfl) (ak (ρ':=xW bd (.lst ((ar bd W w).map cL)) nk f [] (fun _=>0) none none none) rfl (ak (c9 (fe (ds:=(aK bd.length W).map cD) ?_ a4)) rfl)))
 show (aj 1 bF (aC (dV 0) aN) _>>=lstM)=_
 rw[(ai (ds:=[brd bd]) rfl rfl:aj 1 bF (aC (dV 0) aN) _=_),fN hg]
 rfl
def M0:DS:=(cG [4,5,6] (fK (b9 (d2 (tQ false) (dV 2) (dV 4))) (aA (bz 6 (d2 nj (d2 cO (d2 bg (dV 4) (dC (.int 0))) (d2 bg (dV 4) (dC (.int 1)))) (dV 2))) (i8 3 (dA dG (aC (d1 mD (dV 5)) (aC (d1 mD (dA a6 (aC (d2 di (dV 1) (dV 6)) aN))) (aC (dV 6) aN)))))) cw))
def mL(t:Int×Int×Nat):D:= .tup [.int t.1, .int t.2.1, .int (t.2.2:Int)]
abbrev Cr(bd:List Str)(S:D)(i:Nat)(acc:List (Int×Int×Nat))(x4 x5 x6:Option Sl):aX:=[fz (brd bd),fz S,fz (.int (i:Int)),some (.ow (.lst (acc.map mL))),x4,x5,x6]
def E_(bd:List Str)(W:Nat)(f:Cell→Nat)(i j:Nat):Prop:=∃x y,On bd.length W x∧On bd.length W y∧fG 4 x y=true∧f x=i∧f y=j∧i≠j
theorem Dd{f:Cell→Nat}(hf:∀x,On bd.length W x→∃P,(ar bd W w)[f x]? =some P∧x∈P){i:Nat}{k:Cell}(hk:∃x y,On bd.length W x∧On bd.length W y∧fG 4 x y=true∧f x<f y∧k=(f x,f y)){v:Int}{acc:List (Int×Int×Nat)}(hl:acc.length<4000):
 ∃mV,(∀t∈mV,t∈acc∨E_ bd W f i t.2.2)∧(acc≠[]→mV≠[])∧((k.1=i∨k.2=i)→mV≠[])∧mV.length≤acc.length+1∧
  M0 (Cr bd (.lst ((ar bd W w).map cL)) i acc (fz (cD k)) (fz (.int v)) none)=M.ret (.nx (Cr bd (.lst ((ar bd W w).map cL)) i mV none none none)):=by
 obtain⟨x,y,hx,hy,Cq,eZ,rfl⟩:=hk
 have xX:b9 (d2 (tQ false) (dV 2) (dV 4)) (Cr bd (.lst ((ar bd W w).map cL)) i acc (fz (cD (f x,f y))) (fz (.int v)) none)=M.ret (decide (f x=i∨f y=i)):=by
  refine eN ((aG (x:= .int (i:Int)) (y:=cD (f x,f y)) rfl rfl).trans ?_)
  show M.ret (D.bl ([(f x:Int),(f y:Int)].contains (i:Int)))=_
  congr 2
  rw[Bool.eq_iff_iff,List.contains_iff_mem,decide_eq_true_eq]
  simp only[List.mem_cons,List.not_mem_nil,or_false]
  omega
 by_cases h:f x=i∨f y=i
 ·rw[decide_eq_true h] at xX
  obtain⟨j,hj,HQ⟩:∃j:Nat,(f x:Int)+(f y:Int) - (i:Int)=(j:Int)∧E_ bd W f i j:=by
   rcases h with h | h
   ·exact⟨f y,by omega,x,y,hx,hy,Cq,h,rfl,by omega⟩
   ·exact⟨f x,by omega,y,x,hy,hx,by rw[hZ];exact Cq,h,rfl,by omega⟩
  obtain⟨u,z,hu,hz,_,_,OA,_⟩:=id HQ
  obtain⟨P,hP,_⟩:=hf z hz
  rw[OA] at hP
  refine⟨acc++[(-v,-(P.length:Int),j)],fun t ht=>?_,fun _=>by simp,fun _=>by simp,by simp,?_⟩
  ·rcases List.mem_append.mp ht with q | q
   ·exact .inl q
   ·rw[List.mem_singleton.mp q];exact .inr HQ
  ·have e6:d2 nj (d2 cO (d2 bg (dV 4) (dC (.int 0))) (d2 bg (dV 4) (dC (.int 1)))) (dV 2) (Cr bd (.lst ((ar bd W w).map cL)) i acc (fz (cD (f x,f y))) (fz (.int v)) none)=M.ret (.int (j:Int)):=by
    refine(aG (x:= .int ((f x:Int)+(f y:Int))) (y:= .int (i:Int)) ((aG (x:= .int (f x:Int)) (y:= .int (f y:Int)) ((aG (x:=cD (f x,f y)) (y:= .int 0) rfl rfl).trans rfl) ((aG (x:=cD (f x,f y)) (y:= .int 1) rfl rfl).trans rfl)).trans rfl) rfl).trans ?_
    rw[Ah,hj]
   have eP:dA a6 (aC (d2 di (dV 1) (dV 6)) aN) (Cr bd (.lst ((ar bd W w).map cL)) i acc (fz (cD (f x,f y))) (fz (.int v)) (fz (.int (j:Int))))=M.ret (.int (P.length:Int)):=by
    refine(bY (xs:=[cL P]) (aT ((aG (x:= .lst ((ar bd W w).map cL)) (y:= .int (j:Int)) rfl rfl).trans ?_) rfl)).trans ?_
    ·show (match L2.atI ((ar bd W w).map cL) (j:Int) with | some d=>M.ret d | none=>M.stuck)=_
     rw[du (x:=cL P) (by rw[List.getElem?_map,hP];rfl)]
    ·show M.ret (D.int ((P.map cD).length:Int))=_
     rw[List.length_map]
   refine(bf (ρ':=Cr bd (.lst ((ar bd W w).map cL)) i (acc++[(-v,-(P.length:Int),j)]) (fz (cD (f x,f y))) (fz (.int v)) (fz (.int (j:Int)))) (ez xX (ak (ρ':=Cr bd (.lst ((ar bd W w).map cL)) i acc (fz (cD (f x,f y))) (fz (.int v)) (fz (.int (j:Int)))) ((aJ e6).trans rfl) ?_))).trans rfl
   show (dA dG _ _>>=fun d=>if (acc.map mL).length<lim then M.ret (Out.nx _) else M.stuck)=_
   rw[bY (xs:=[.int (-v), .int (-(P.length:Int)), .int (j:Int)]) (aT (show d1 mD (dV 5) _=M.ret (.int (-v)) from rfl) (aT (by show (dA a6 _ _>>=mD)=_;rw[eP];rfl) (aT rfl rfl)))]
   show (if (acc.map mL).length<lim then M.ret (Out.nx _) else M.stuck)=_
   rw[if_pos (by rw[List.length_map,dq];omega)]
   exact congrArg (fun l=>M.ret (Out.nx [fz (brd bd),fz (.lst ((ar bd W w).map cL)),fz (.int (i:Int)),some (.ow (.lst l)),fz (cD (f x,f y)),fz (.int v),fz (.int (j:Int))])) (List.map_append (l₁:=acc) (l₂:=[(-v,-(P.length:Int),j)]) (f:=mL)).symm
 ·rw[decide_eq_false h] at xX
  exact⟨acc,fun t ht=> .inl ht,fun q=>q,fun q=>absurd q h,Nat.le_succ _,(bf (cQ xX rfl)).trans rfl⟩
theorem xB{f:Cell→Nat}(hf:∀x,On bd.length W x→∃P,(ar bd W w)[f x]? =some P∧x∈P){i:Nat}{g:Cell→Int}:∀(l:List Cell) (acc:List (Int×Int×Nat)),(∀k∈l,∃x y,On bd.length W x∧On bd.length W y∧fG 4 x y=true∧f x<f y∧k=(f x,f y))→acc.length+l.length≤4000→
 ∃mV,(∀t∈mV,t∈acc∨E_ bd W f i t.2.2)∧(acc≠[]→mV≠[])∧((∃k∈l,k.1=i∨k.2=i)→mV≠[])∧mV.length≤4000∧
  forL (oz [4,5]) M0 (l.map fun k=> .tup [cD k, .int (g k)]) (Cr bd (.lst ((ar bd W w).map cL)) i acc none none none)=M.ret (.nx (Cr bd (.lst ((ar bd W w).map cL)) i mV none none none))
 |[],acc,_,hl=>⟨acc,fun t ht=> .inl ht,fun q=>q,fun⟨k,hk,_⟩=>(by cases hk),by simpa using hl,rfl⟩
 |k::l,acc,h,hl=>by
  rw[List.length_cons] at hl
  obtain⟨a1,b1,b2,b3,b4,b5⟩:=Dd (w:=w) hf (i:=i) (h k (List.mem_cons_self ..)) (v:=g k) (acc:=acc) (by omega)
  obtain⟨a2,c1,c2,c3,c4,c5⟩:=xB hf (i:=i) (g:=g) l a1 (fun z hz=>h z (List.mem_cons_of_mem _ hz)) (by omega)
  refine⟨a2,fun t ht=>?_,fun q=>c2 (b2 q),fun⟨z,hz,q⟩=>?_,c4,(cF rfl b5).trans c5⟩
  ·rcases c1 t ht with q | q
   ·exact b1 t q
   ·exact .inr q
  ·rcases List.mem_cons.mp hz with e | hz
   ·subst e;exact c2 (b3 q)
   ·exact c3 ⟨z,hz,q⟩
theorem AG{ks:List Cell}{g:Cell→Int}:kH (yu ks fun k=> .int (g k))=M.ret (ks.map fun k=> .tup [cD k, .int (g k)]):=by
 have ok:(ks.map keyOf).all (fun k=>decide (k.length≤lim)&&k.all lV)=true:=by
  rw[List.all_map]
  exact List.all_eq_true.mpr fun _ _=>rfl
 show (if (ks.map keyOf).all (fun k=>decide (k.length≤lim)&&k.all lV)=true then M.ret (((ks.map keyOf).zip (ks.map fun k=>D.int (g k))).map fun q=>D.tup [tupK q.1,q.2]) else M.stuck)=_
 rw[if_pos ok,uZ,List.map_map]
 rfl
theorem tY:∀l:List (Int×Int×Nat),js (l.map mL)=some (l.map fun t=>[t.1,t.2.1,(t.2.2:Int)])
 |[]=>rfl
 |t::l=>by
  show (match EO (mL t),js (l.map mL) with | some k,some ks=>some (k::ks) | _,_=>none)=_
  rw[tY l]
  rfl
theorem yP(hg:Brd bd W)(hs:bd.length*W<64)(hw:Ways w){i:Nat}{P:List Cell}(hi:(ar bd W w)[i]? =some P)(h1:(ar bd W w).length≠1):
 ∃(j:Nat) (Q:List Cell) (x y:Cell),(ar bd W w)[j]? =some Q∧Adj bd W w P Q x y∧dE [brd bd, .lst ((ar bd W w).map cL), .int (i:Int)]=M.ret (.int (j:Int)):=by
 obtain⟨f,ks,g,hf,hS,CK,es⟩:=wC hg hs hw
 have hl:=d5 (bd:=bd) (W:=W) (w:=w)
 have flt:∀x,On bd.length W x→f x<63:=fun x hx=>by
  obtain⟨P,e,_⟩:=hf x hx
  have:=(List.getElem?_eq_some_iff.mp e).1
  omega
 have J4:ks.length≤63*63:=by
  have:ks.length≤(aK 63 63).length:=gb hS.nd fun k hk=>by
   obtain⟨a,b,ha,hb,_,Fy,rfl⟩:=hS.is k hk
   exact aI.mpr ⟨flt a ha,flt b hb⟩
  rw[cq] at this
  exact this
 obtain⟨acc,b1,b2,b3,b4,b5⟩:=xB hf (i:=i) (g:=g) ks [] hS.is (by rw[List.length_nil];omega)
 have JX:=nP hi
 have fi:∀z∈P,f z=i:=fun z hz=>by
  obtain⟨R,r1,r2⟩:=hf z (cU hw P JX z hz)
  exact rn hw r1 hi r2 hz
 have g0:acc≠[]:=by
  obtain⟨Q,x,y,ha⟩:=BV hg hw JX h1
  refine b3 ?_
  have e1:=fi x ha.xp
  have g0:f x≠f y:=fun e=>by
   obtain⟨R,r1,r2⟩:=hf x (ha.ox hw)
   obtain⟨R',r3,r4⟩:=hf y (ha.oy hw)
   rw[←e,r1] at r3
   cases r3
   exact ha.yn hw ((iV hw (nP r1) JX r2 ha.xp)▸r4)
  rcases Nat.lt_or_ge (f x) (f y) with q | q
  ·exact⟨_,CK x y (ha.ox hw) (ha.oy hw) ha.nx q, .inl e1⟩
  ·exact⟨_,CK y x (ha.oy hw) (ha.ox hw) (by rw[hZ];exact ha.nx) (by omega), .inr e1⟩
 have CS:0<(acc.map fun t=>[t.1,t.2.1,(t.2.2:Int)]).length:=by
  rw[List.length_map]
  exact List.length_pos_iff.mpr g0
 have hb:dw (acc.map fun t=>[t.1,t.2.1,(t.2.2:Int)])<acc.length:=by
  have:=jj (fun a b=>HT.lexLt ((acc.map fun t=>[t.1,t.2.1,(t.2.2:Int)]).getD a []) ((acc.map fun t=>[t.1,t.2.1,(t.2.2:Int)]).getD b [])) ((acc.map fun t=>[t.1,t.2.1,(t.2.2:Int)]).length - 1)
  have:dw (acc.map fun t=>[t.1,t.2.1,(t.2.2:Int)])≤(acc.map fun t=>[t.1,t.2.1,(t.2.2:Int)]).length - 1:=this
  rw[List.length_map] at this CS
  omega
 have em:rC [.lst (acc.map mL)]=M.ret (mL acc[dw (acc.map fun t=>[t.1,t.2.1,(t.2.2:Int)])]):=by
  show (match js (acc.map mL) with | some ks=>if 0<ks.length∧(ks.getD (dw ks) []).length≤lim then M.ret (tupI (ks.getD (dw ks) [])) else M.stuck | none=>M.stuck)=_
  rw[tY]
  have eg:(acc.map fun t=>[t.1,t.2.1,(t.2.2:Int)]).getD (dw (acc.map fun t=>[t.1,t.2.1,(t.2.2:Int)])) []=[acc[dw (acc.map fun t=>[t.1,t.2.1,(t.2.2:Int)])].1,acc[dw (acc.map fun t=>[t.1,t.2.1,(t.2.2:Int)])].2.1,(acc[dw (acc.map fun t=>[t.1,t.2.1,(t.2.2:Int)])].2.2:Int)]:=by
   rw[List.getD_eq_getElem?_getD,List.getElem?_map,List.getElem?_eq_getElem hb]
   rfl
  show (if 0<(acc.map fun t=>[t.1,t.2.1,(t.2.2:Int)]).length∧((acc.map fun t=>[t.1,t.2.1,(t.2.2:Int)]).getD (dw (acc.map fun t=>[t.1,t.2.1,(t.2.2:Int)])) []).length≤lim then M.ret (tupI ((acc.map fun t=>[t.1,t.2.1,(t.2.2:Int)]).getD (dw (acc.map fun t=>[t.1,t.2.1,(t.2.2:Int)])) [])) else M.stuck)=_
  rw[eg,if_pos ⟨CS,by show 3≤lim;decide⟩]
  rfl
 have ht:=List.getElem_mem hb
 generalize acc[dw (acc.map fun t=>[t.1,t.2.1,(t.2.2:Int)])]=t at*
 obtain⟨x,y,hx,hy,Cq,e1,e2,tU⟩:=(b1 t ht).resolve_left (by simp)
 obtain⟨R,r1,r2⟩:=hf x hx
 obtain⟨Q,q1,q2⟩:=hf y hy
 rw[e1,hi] at r1
 cases r1
 rw[e2] at q1
 refine⟨t.2.2,Q,x,y,q1,⟨JX,nP q1,fun e=>tU ?_,r2,q2,Cq⟩,?_⟩
 ·subst e
  exact rn hw hi q1 r2 r2
 ·refine aS (ak (ρ':=Cr bd (.lst ((ar bd W w).map cL)) i [] none none none) rfl (ak (c9 (fe (ds:=ks.map fun k=> .tup [cD k, .int (g k)]) ?_ b5)) ?_))
  ·show (aj 2 bZ (aC (dV 0) (aC (dV 1) aN)) _>>=kH)=_
   rw[(ai (ds:=[brd bd, .lst ((ar bd W w).map cL)]) rfl rfl:aj 2 bZ (aC (dV 0) (aC (dV 1) aN)) _=_),es,aq,AG]
  ·refine aE ((aG (x:=mL t) (y:= .int 2) ((bY (xs:=[.lst (acc.map mL)]) rfl).trans em) rfl).trans rfl)
end
section
open Classical
variable{bd:List Str}{W w:Nat}
noncomputable def bJ(bd:List Str)(V w:Nat):List Int:=(ar bd V w).map fun P=>(P.length:Int)
theorem kM:∀l:List Int,nums (l.map D.int)=some l
 |[]=>rfl
 |x::r=>by
  show (nums (r.map D.int)).map _=_
  rw[kM r]
  rfl
theorem qa(hs:bd.length*W<64){δ:DE}{ρ:aX}(h:δ ρ=M.ret (.lst ((ar bd W w).map cL))):bE 0 (d4 δ) cM (dA a6 (aC (dV 0) aN)) ρ=M.ret (.lst ((bJ bd W w).map D.int)):=by
 have hl:=d5 (bd:=bd) (W:=W) (w:=w)
 refine cE (ds:=(ar bd W w).map cL) ?_ ?_ (by unfold bJ;rw[List.length_map,List.length_map,dq];omega)
 ·show (δ ρ>>=lstM)=_
  rw[h]
  rfl
 ·unfold bJ
  rw[List.map_map]
  refine jo cL _ _ fun P hP=>?_
  rw[ky]
  show (M.ret (D.int ((P.map cD).length:Int))>>=fun y=>M.ret (some y))=_
  rw[List.length_map]
  rfl
theorem jx(hg:Brd bd W)(hw:Ways w):0<(ar bd W w).length:=by
 obtain⟨P,hP,_⟩:=gy hg hw (x:=(0,0)) ⟨hg.r1,hg.w1⟩
 exact List.length_pos_of_mem hP
theorem t_(hg:Brd bd W)(hw:Ways w):gO [.lst ((bJ bd W w).map D.int)]=M.ret (.int (cT (bJ bd W w))):=by
 show (match nums ((bJ bd W w).map D.int) with | some ns=>if 0<ns.length then M.ret (D.int (cT ns)) else M.stuck | none=>M.stuck)=_
 rw[kM]
 exact if_pos (by unfold bJ;rw[List.length_map];exact jx hg hw)
def Stop(bd:List Str)(W w least:Nat):Prop:=(ar bd W w).length=1∨∀P∈ar bd W w,least≤P.length
def AO(bd:List Str)(W w least:Nat)(JR:List Str):Prop:=∃P Q x y,Adj bd W w P Q x y∧cT (bJ bd W w)=(P.length:Int)∧P.length<least∧JR=mC bd W P y∧a8 [brd bd, .int (w:Int), .int (least:Int)]=M.ret (brd JR)
theorem IL{Ps:List (List Cell)}{i:Nat}{P:List Cell}(h:Ps[i]? =some P):di (.lst (Ps.map cL)) (.int (i:Int))=M.ret (cL P):=by
 show (match L2.atI (Ps.map cL) (i:Int) with | some d=>M.ret d | none=>M.stuck)=_
 rw[du (x:=cL P) (by rw[List.getElem?_map,h];rfl)]
theorem ja(hg:Brd bd W)(hs:bd.length*W<64)(hw:Ways w)(least:Nat):(Stop bd W w least∧a8 [brd bd, .int (w:Int), .int (least:Int)]=M.ret .non)∨(¬Stop bd W w least∧∃JR,AO bd W w least JR):=by
 have O7:=d5 (bd:=bd) (W:=W) (w:=w)
 have CS:=jx hg hw
 have N2:0<(bJ bd W w).length:=by unfold bJ;rw[List.length_map];exact CS
 obtain⟨m1,m2⟩:=kK N2
 have vi:Stop bd W w least↔((ar bd W w).length=1∨(least:Int)≤cT (bJ bd W w)):=by
  refine or_congr_right ⟨fun h=>?_,fun h P hP=>?_⟩
  ·obtain⟨P,hP,e⟩:=List.mem_map.mp (show cT (bJ bd W w)∈(ar bd W w).map fun P=>(P.length:Int) from m1)
   rw[←e]
   have:=h P hP
   omega
  ·have:=m2 (P.length:Int) (List.mem_map.mpr ⟨P,hP,rfl⟩)
   omega
 let S:D:= .lst ((ar bd W w).map cL)
 let Z:D:= .lst ((bJ bd W w).map D.int)
 have e3:aj 2 bo (aC (dV 0) (aC (dV 1) aN)) [fz (brd bd),fz (.int (w:Int)),fz (.int (least:Int)),none,none,none,none]=M.ret S:=(ai (ds:=[brd bd, .int (w:Int)]) rfl rfl).trans ((eC hg hs hw).trans (by rw[jy]))
 have Nj:dA a6 (aC (dV 3) aN) [fz (brd bd),fz (.int (w:Int)),fz (.int (least:Int)),fz S,fz Z,none,none]=M.ret (.int ((ar bd W w).length:Int)):=by
  refine(bY (xs:=[S]) rfl).trans ?_
  show M.ret (D.int (((ar bd W w).map cL).length:Int))=_
  rw[List.length_map]
 have Mj:∀{x5 x6:Option Sl},dA gO (aC (dV 4) aN) [fz (brd bd),fz (.int (w:Int)),fz (.int (least:Int)),fz S,fz Z,x5,x6]=M.ret (.int (cT (bJ bd W w))):=(bY (xs:=[Z]) rfl).trans (t_ hg hw)
 have xX:kr (b9 (d2 mz (dA a6 (aC (dV 3) aN)) (dC (.int 1)))) (b9 (d2 CI (dA gO (aC (dV 4) aN)) (dV 2))) [fz (brd bd),fz (.int (w:Int)),fz (.int (least:Int)),fz S,fz Z,none,none]=M.ret (decide (Stop bd W w least)):=by
  refine(xg (p:=decide ((ar bd W w).length=1)) (q:=decide ((least:Int)≤cT (bJ bd W w))) (eN ((aG Nj (y:= .int 1) rfl).trans ?_)) (eN ((aG Mj (y:= .int (least:Int)) rfl).trans rfl))).trans ?_
  ·rw[eq_int]
   congr 2
   rw[Bool.eq_iff_iff,beq_iff_eq,decide_eq_true_eq]
   omega
  ·congr 1
   rw[Bool.eq_iff_iff,Bool.or_eq_true,decide_eq_true_eq,decide_eq_true_eq,decide_eq_true_eq]
   exact vi.symm
 have top:∀{d:D},aA (fK (kr (b9 (d2 mz (dA a6 (aC (dV 3) aN)) (dC (.int 1)))) (b9 (d2 CI (dA gO (aC (dV 4) aN)) (dV 2)))) (a_ (dC .non)) cw) (aA (bz 5 (dM p0 tW (dV 4) (aC (dA gO (aC (dV 4) aN)) aN))) (aA (bz 6 (aj 3 dE (aC (dV 0) (aC (dV 3) (aC (dV 5) aN))))) (a_ (aj 3 b6 (aC (dV 0) (aC (d2 di (dV 3) (dV 5)) (aC (aj 2 aL (aC (dV 0) (aC (d2 di (d2 di (dV 3) (dV 6)) (dC (.int 0))) aN))) aN))))))) [fz (brd bd),fz (.int (w:Int)),fz (.int (least:Int)),fz S,fz Z,none,none]=M.ret (.rt d)→a8 [brd bd, .int (w:Int), .int (least:Int)]=M.ret d:=fun {d} h=>
  aS (ak (ρ':=[fz (brd bd),fz (.int (w:Int)),fz (.int (least:Int)),fz S,none,none,none]) ((aJ e3).trans rfl) (ak (ρ':=[fz (brd bd),fz (.int (w:Int)),fz (.int (least:Int)),fz S,fz Z,none,none]) ((aJ (qa hs (δ:=dV 3) rfl)).trans rfl) h))
 by_cases hS:Stop bd W w least
 ·rw[decide_eq_true hS] at xX
  exact .inl ⟨hS,top (de (ez xX rfl))⟩
 ·rw[decide_eq_false hS] at xX
  refine .inr ⟨hS,?_⟩
  have eZ:(bJ bd W w).idxOf (cT (bJ bd W w))<(bJ bd W w).length:=List.idxOf_lt_length_iff.mpr m1
  obtain⟨P,hP,HP⟩:∃P,(ar bd W w)[(bJ bd W w).idxOf (cT (bJ bd W w))]? =some P∧cT (bJ bd W w)=(P.length:Int):=by
   have e:(bJ bd W w)[(bJ bd W w).idxOf (cT (bJ bd W w))]? =some (cT (bJ bd W w)):=by rw[List.getElem?_eq_getElem eZ,List.getElem_idxOf eZ]
   have e2:((ar bd W w).map fun P=>(P.length:Int))[(bJ bd W w).idxOf (cT (bJ bd W w))]? =some (cT (bJ bd W w)):=e
   rw[List.getElem?_map] at e2
   cases q:(ar bd W w)[(bJ bd W w).idxOf (cT (bJ bd W w))]? with
   |none=>rw[q] at e2;cases e2
   |some P=>rw[q] at e2;exact⟨P,rfl,(Option.some.inj e2).symm⟩
  have h1:(ar bd W w).length≠1:=fun q=>hS (.inl q)
  have La:P.length<least:=by
   have:¬(least:Int)≤cT (bJ bd W w):=fun q=>hS (vi.mpr (.inr q))
   omega
  obtain⟨j,Q,x,y,hQ,hA,em⟩:=yP hg hs hw hP h1
  obtain⟨m,n1,_,n3,r,hr⟩:=c0 hw hA.q
  have N1:lt bd y=lt bd m:=((e_ hw hA.q n1).mp hA.yq).letter hw
  have Mx:P.length<64:=by
   obtain⟨m',p1,_,p3,_⟩:=c0 hw hA.p
   have Iq:RiseC P:=by rw[←d9 hw hA.p hA.xp];exact(bh hw (hA.ox hw)).rise
   have:=iL (bd:=bd) (W:=W) (RiseC.nodup Iq) fun z hz=>cU hw P hA.p z hz
   omega
  refine⟨mC bd W P y,P,Q,x,y,hA,HP,La,rfl,top ?_⟩
  refine ak (cQ xX rfl) ?_
  refine ak (ρ':=[fz (brd bd),fz (.int (w:Int)),fz (.int (least:Int)),fz S,fz Z,fz (.int (((bJ bd W w).idxOf (cT (bJ bd W w)):Nat):Int)),none]) ((aJ ?_).trans rfl) ?_
  ·show (if p0 Z then(aC (dA gO (aC (dV 4) aN)) aN) _>>=fun ds=>tW Z ds else M.stuck)=_
   rw[if_pos (show p0 Z=true from rfl),aT Mj (xs:=[]) rfl,aq]
   show (match nums ((bJ bd W w).map D.int) with | some ns=>if ns.contains (cT (bJ bd W w)) then M.ret (D.int (ns.idxOf (cT (bJ bd W w)):Nat)) else M.stuck | none=>M.stuck)=_
   rw[kM]
   exact if_pos (by simpa using m1)
  refine ak (ρ':=[fz (brd bd),fz (.int (w:Int)),fz (.int (least:Int)),fz S,fz Z,fz (.int (((bJ bd W w).idxOf (cT (bJ bd W w)):Nat):Int)),fz (.int (j:Int))]) ((aJ ((ai (ds:=[brd bd,S, .int (((bJ bd W w).idxOf (cT (bJ bd W w)):Nat):Int)]) rfl rfl).trans em)).trans rfl) ?_
  have e1:d2 di (dV 3) (dV 5) [fz (brd bd),fz (.int (w:Int)),fz (.int (least:Int)),fz S,fz Z,fz (.int (((bJ bd W w).idxOf (cT (bJ bd W w)):Nat):Int)),fz (.int (j:Int))]=M.ret (cL P):=(aG (x:=S) rfl rfl).trans (IL hP)
  have e2:d2 di (d2 di (dV 3) (dV 6)) (dC (.int 0)) [fz (brd bd),fz (.int (w:Int)),fz (.int (least:Int)),fz S,fz Z,fz (.int (((bJ bd W w).idxOf (cT (bJ bd W w)):Nat):Int)),fz (.int (j:Int))]=M.ret (cD m):=by
   refine(aG (x:=cL Q) (y:= .int ((0:Nat):Int)) ((aG (x:=S) rfl rfl).trans (IL hQ)) rfl).trans (FU ?_)
   rw[hr]
   rfl
  refine aE ((ai (ds:=[brd bd,cL P,sg (lt bd m)]) (aT rfl (aT e1 (aT ((ai (ds:=[brd bd,cD m]) (aT rfl (aT e2 rfl)) rfl).trans (cZ hg n3)) rfl))) rfl).trans ((lq hg (by omega) _).trans ?_))
  rw[←N1]
def Run(W w least:Nat):List Str→List (List Str)→Prop
 |b,[]=>Stop b W w least
 |b,b'::r=>AO b W w least b'∧Run W w least b' r
theorem AL(hG:Good bd W){P:List Cell}{y:Cell}(hy:On bd.length W y):Good (mC bd W P y) W:=zi hG (w6 hG.brd hy.1 hy.2)
theorem ck(hG:Good bd W):bd.length*W<64:=by
 have:=Nat.mul_le_mul hG.r5 hG.w5
 omega
theorem AO.good{least:Nat}{b':List Str}(h:AO bd W w least b')(hG:Good bd W)(hw:Ways w):Good b' W∧b'.length=bd.length∧(ar b' W w).length<(ar bd W w).length:=by
 obtain⟨P,Q,x,y,hA,_,_,rfl,_⟩:=h
 exact⟨AL hG (hA.oy hw),gr,hA.fewer hw⟩
abbrev G8(b0:D)(w least:Nat)(acc:List (List Str))(d:D):aX:=[fz b0,fz (.int (w:Int)),fz (.int (least:Int)),some (.ow (.lst (acc.map brd))),fz d]
def Mf:DS:=(aA (i8 3 (dV 4)) (bz 4 (aj 3 a8 (aC (dV 4) (aC (dV 1) (aC (dV 2) aN))))))
theorem w4{b0:D}{least:Nat}{acc:List (List Str)}{b:List Str}{d:D}(ha:acc.length<4000)(e:a8 [brd b, .int (w:Int), .int (least:Int)]=M.ret d):Mf (G8 b0 w least acc (brd b))=M.ret (.nx (G8 b0 w least (acc++[b]) d)):=by
 refine ak (ρ':=G8 b0 w least (acc++[b]) (brd b)) ?_ ((aJ ((ai (ds:=[brd b, .int (w:Int), .int (least:Int)]) rfl rfl).trans e)).trans rfl)
 show (if (acc.map brd).length<lim then M.ret (Out.nx _) else M.stuck)=_
 rw[if_pos (by rw[List.length_map,dq];omega)]
 exact congrArg (fun l=>M.ret (Out.nx [fz b0,fz (.int (w:Int)),fz (.int (least:Int)),some (.ow (.lst l)),fz (brd b)])) (List.map_append (l₁:=acc) (l₂:=[b]) (f:=brd)).symm
theorem Cw(hw:Ways w){b0:D}{least:Nat}:∀(n:Nat) (b:List Str) (acc:List (List Str)) (N:Nat),Good b W→(ar b W w).length≤n→acc.length+n<4000→n+2≤N→
 ∃r,Run W w least b r∧eh (b9 (d2 (yy true) (dV 4) (dC .non))) Mf N (G8 b0 w least acc (brd b))=M.ret (.nx (G8 b0 w least (acc++b::r) .non)):=by
 intro n
 induction n with
 |zero=>
  intro b acc N hG hp ha hN
  have:=jx hG.brd hw
  omega
 |succ n ih=>
  intro b acc N hG hp ha hN
  obtain⟨N,rfl⟩:∃k,N=k+2:=⟨N - 2,by omega⟩
  rcases ja hG.brd (ck hG) hw least with⟨hS,e⟩ | ⟨_,b',KG⟩
  ·exact⟨[],hS,oX rfl (w4 (by omega) e) (uY rfl)⟩
  ·obtain⟨g1,g2,g3⟩:=KG.good hG hw
   obtain⟨r,r1,r2⟩:=ih b' (acc++[b]) (N+1) g1 (by omega) (by rw[List.length_append];simp;omega) (by omega)
   obtain⟨_,_,_,_,_,_,_,_,e⟩:=id KG
   refine⟨b'::r,⟨KG,r1⟩,oX rfl (w4 (by omega) e) (r2.trans ?_)⟩
   rw[List.append_assoc]
   rfl
theorem fO(hG:Good bd W)(hw:Ways w)(least:Nat):∃r,Run W w least bd r∧bP [brd bd, .int (w:Int), .int (least:Int)]=M.ret (.lst ((bd::r).map brd)):=by
 have hl:=d5 (bd:=bd) (W:=W) (w:=w)
 have hs:=ck hG
 obtain⟨r,r1,r2⟩:=Cw hw (b0:=brd bd) (least:=least) 64 bd [] lim hG (by omega) (by simp) (by rw[dq];decide)
 refine⟨r,r1,aS (ak (ρ':=[fz (brd bd),fz (.int (w:Int)),fz (.int (least:Int)),some (.ow (.lst [])),none]) rfl (ak (ρ':=G8 (brd bd) w least [] (brd bd)) rfl (ak (c9 r2) ?_)))⟩
 rfl
theorem kL(hg:Brd bd W)(hw:Ways w){least:Nat}(h1:1≤least)(h2:least≤64):bq [brd bd, .int (w:Int), .int (least:Int)]=M.ret .non:=by
 refine sr (ρ:=[fz (brd bd),fz (.int (w:Int)),fz (.int (least:Int))]) (ak (cz ((ai (ds:=[brd bd]) rfl rfl).trans hg.nb)) (ak (cz ((ai (ds:=[.int (w:Int)]) rfl rfl).trans hw.nw)) (cQ (xg (p:=false) (q:=false) (qZ (b:=true) (q0 ((ai (ds:=[.int (least:Int)]) rfl rfl).trans ((ll (d:= .int (least:Int)) trivial).trans rfl)))) (qZ (b:=true) (eN ?_))) rfl)))
 show (if decide ((1:Int)≤(least:Int))=true then M.ret (D.bl (decide ((least:Int)≤64))) else M.ret (D.bl false))=_
 rw[if_pos (by rw[decide_eq_true_eq];omega),decide_eq_true (by omega)]
theorem ke(hG:Good bd W)(hw:Ways w){least:Nat}(h1:1≤least)(h2:least≤64){r:List (List Str)}(e:bP [brd bd, .int (w:Int), .int (least:Int)]=M.ret (.lst ((bd::r).map brd))):dh [brd bd, .int (w:Int), .int (least:Int)]=M.ret (.lst ((bd::r).map brd)):=
 aS (ak (cz ((ai (ds:=[brd bd, .int (w:Int), .int (least:Int)]) rfl rfl).trans (kL hG.brd hw h1 h2))) (aE ((ai (ds:=[brd bd, .int (w:Int), .int (least:Int)]) rfl rfl).trans e)))
theorem gN(hG:Good bd W)(hw:Ways w){least:Nat}(h1:1≤least)(h2:least≤64){d:D}(e:a8 [brd bd, .int (w:Int), .int (least:Int)]=M.ret d):bH [brd bd, .int (w:Int), .int (least:Int)]=M.ret d:=
 aS (ak (cz ((ai (ds:=[brd bd, .int (w:Int), .int (least:Int)]) rfl rfl).trans (kL hG.brd hw h1 h2))) (aE ((ai (ds:=[brd bd, .int (w:Int), .int (least:Int)]) rfl rfl).trans e)))
theorem xx{r:List (List Str)}{l:List Str}(h:r.getLast? =some l):di (.lst (r.map brd)) (.int (-1))=M.ret (brd l):=by
 obtain⟨q,rfl⟩:=List.getLast?_eq_some_iff.mp h
 rw[List.map_append]
 exact C4 ..
theorem jv(hG:Good bd W)(hw:Ways w){least:Nat}(h1:1≤least)(h2:least≤64){r:List (List Str)}{l:List Str}(e:bP [brd bd, .int (w:Int), .int (least:Int)]=M.ret (.lst ((bd::r).map brd)))(hl:(bd::r).getLast? =some l):dD [brd bd, .int (w:Int), .int (least:Int)]=M.ret (brd l):=
 aS (ak (cz ((ai (ds:=[brd bd, .int (w:Int), .int (least:Int)]) rfl rfl).trans (kL hG.brd hw h1 h2))) (aE ((aG (x:= .lst ((bd::r).map brd)) (y:= .int (-1)) ((ai (ds:=[brd bd, .int (w:Int), .int (least:Int)]) rfl rfl).trans e) rfl).trans (xx hl))))
theorem oP(hG:Good bd W)(hw:Ways w){least:Nat}(h:Stop bd W w least):a8 [brd bd, .int (w:Int), .int (least:Int)]=M.ret .non∧bP [brd bd, .int (w:Int), .int (least:Int)]=M.ret (.lst ([bd].map brd)):=by
 have e:a8 [brd bd, .int (w:Int), .int (least:Int)]=M.ret .non:=by
  rcases ja hG.brd (ck hG) hw least with⟨_,e⟩ | ⟨hn,_⟩
  ·exact e
  ·exact absurd h hn
 refine⟨e,?_⟩
 obtain⟨r,r1,r2⟩:=fO hG hw least
 cases r with
 |nil=>exact r2
 |cons b' r=>
  obtain⟨⟨_,_,_,_,_,_,_,_,e2⟩,_⟩:=r1
  rw[e] at e2
  cases e2
theorem oE(hw:Ways w){least:Nat}:∀(r:List (List Str)) (b:List Str),Good b W→Run W w least b r→∃l,(b::r).getLast? =some l∧Good l W∧l.length=b.length∧Stop l W w least
 |[],b,hG,h=>⟨b,rfl,hG,rfl,h⟩
 |b'::r,b,hG,h=>by
  obtain⟨g1,g2,_⟩:=h.1.good hG hw
  obtain⟨l,a1,a2,a3,a4⟩:=oE hw r b' g1 h.2
  refine⟨l,?_,a2,a3.trans g2,a4⟩
  rw[List.getLast?_cons_cons]
  exact a1
theorem qE(hw:Ways w){least:Nat}:∀(r:List (List Str)) (b:List Str),Good b W→Run W w least b r→∀p∈(b::r).zip r,Good p.1 W∧AO p.1 W w least p.2
 |[],b,_,_,p,hp=>by simp at hp
 |b'::r,b,hG,h,p,hp=>by
  rw[List.zip_cons_cons] at hp
  rcases List.mem_cons.mp hp with e | hp
  ·rw[e];exact⟨hG,h.1⟩
  ·exact qE hw r b' (h.1.good hG hw).1 h.2 p hp
end
section
open Classical
variable{bd:List Str}{W w:Nat}
theorem lG(hg:Brd bd W){c:Cell}(h:On bd.length W c):bG [brd bd,cD c]=M.ret (sg (lt bd c)):=
 aS (ak (cz ((ai (ds:=[brd bd]) rfl rfl).trans hg.nb)) (ak (cz ((ai (ds:=[brd bd,cD c]) rfl rfl).trans (hg.nc h))) (aE ((ai (ds:=[brd bd,cD c]) rfl rfl).trans (cZ hg h)))))
theorem Fp:i_ 0 sg:=fun k x y=>by
 show lA (0+k) (.str _) (.str _)=_
 rw[xj]
 congr 1
 by_cases h:x=y
 ·subst h;rw[decide_eq_true rfl,beq_self_eq_true]
 ·rw[decide_eq_false h]
  refine beq_eq_false_iff_ne.mpr fun z=>h ?_
  have:=congrArg (fun s:Str=>s.cps.toList) z
  simpa using this
theorem ET(a b:Nat):CI (.int (a:Int)) (.int (b:Int))=M.ret (.bl (decide (b≤a))):=by
 show M.ret (D.bl (decide ((b:Int)≤(a:Int))))=_
 congr 2
 exact decide_eq_decide.mpr (by omega)
theorem IU(a b:Nat):Fv (.int (a:Int)) (.int (b:Int))=M.ret (.bl (decide (a<b))):=by
 show M.ret (D.bl (decide ((a:Int)<(b:Int))))=_
 congr 2
 exact decide_eq_decide.mpr (by omega)
theorem wO(ns:List Int)(hl:ns.length≤63)(k:Nat){ρ:aX}(h0:ρ[0]? =some (fz (.scr ns))):∃w,Ways w∧d2 di (dA fC (aC (dC (.int 4)) (aC (dC (.int 8)) aN))) (aj 3 aF (aC (dV 0) (aC (dC (.int (k:Int))) (aC (dC (.int 2)) aN)))) ρ=M.ret (.int (w:Int)):=by
 obtain⟨v,hv,e⟩:=eQ ns hl k 2 (by decide)
 have ed:aj 3 aF (aC (dV 0) (aC (dC (.int (k:Int))) (aC (dC (.int 2)) aN))) ρ=M.ret (.int (v:Int)):=(ai (ds:=[.scr ns, .int (k:Int), .int ((2:Nat):Int)]) (aT (kz h0) rfl) rfl).trans e
 have IB:v=0∨v=1:=by omega
 rcases IB with rfl | rfl
 ·exact⟨4, .inl rfl,(aG (x:= .lst [.int 4, .int 8]) rfl ed).trans rfl⟩
 ·exact⟨8, .inr rfl,(aG (x:= .lst [.int 4, .int 8]) rfl ed).trans rfl⟩
theorem wY(P:List Cell):∀Ps:List (List Cell),anyF (cL P) (Ps.map cL)=some (decide (P∈Ps))
 |[]=>by simp[anyF]
 |Q::Ps=>by
  show (match lA 6 (cL Q) (cL P),anyF (cL P) (Ps.map cL) with | some p,some q=>some (p||q) | _,_=>none)=_
  rw[wY P Ps,show lA 6 (cL Q) (cL P)=some (decide (Q=P)) from mP z3 4 Q P]
  show some _=some _
  congr 1
  rw[Bool.eq_iff_iff,Bool.or_eq_true,decide_eq_true_eq,decide_eq_true_eq,decide_eq_true_eq,List.mem_cons]
  exact or_congr_left eq_comm
abbrev wt(s b:D)(w least:Nat)(x4 x5 x6 x7 x8 x9 El Em:Option Sl):aX:=[fz s,fz b,fz (.int (w:Int)),fz (.int (least:Int)),x4,x5,x6,x7,x8,x9,El,Em]
def Hr:DS:=(cG [5,6,7,8] (aA (fK (b9 (d2 pU (aj 3 bH (aC (dV 5) (aC (dV 2) (aC (dV 3) aN)))) (dV 6))) (a_ (dC (.bl false))) cw) (aA (fK (b9 (d2 CI (aj 2 bw (aC (dV 6) (aC (dV 2) aN))) (aj 2 bw (aC (dV 5) (aC (dV 2) aN))))) (a_ (dC (.bl false))) cw) (aA (bz 7 (bE 0 (d4 (aj 1 iN (aC (dV 5) aN))) (b9 (d2 pU (aj 2 bG (aC (dV 6) (aC (dV 0) aN))) (aj 2 bG (aC (dV 7) (aC (dV 0) aN))))) (dV 0))) (aA (bz 8 (bE 0 (d4 (aj 2 bN (aC (dV 5) (aC (dV 2) aN)))) cM (dA a6 (aC (dV 0) aN)))) (aA (fK (kr (b9 (d2 (Ac true) (dV 7) (aj 2 bN (aC (dV 5) (aC (dV 2) aN))))) (b9 (d2 pU (dA a6 (aC (dV 7) aN)) (dA gO (aC (dV 8) aN))))) (a_ (dC (.bl false))) cw) (fK (b9 (d2 CI (dA a6 (aC (dV 7) aN)) (dV 3))) (a_ (dC (.bl false))) cw)))))))
variable{s b0:D}{x4 x9 El Em:Option Sl}
theorem zJ{b b':List Str}{least:Nat}(hG:Good b W)(hw:Ways w)(h1:1≤least)(h2:least≤64)(h:AO b W w least b'):
 Hr (wt s b0 w least x4 (fz (brd b)) (fz (brd b')) none none x9 El Em)=M.ret (.nx (wt s b0 w least x4 none none none none x9 El Em)):=by
 obtain⟨g1,g2,g3⟩:=h.good hG hw
 obtain⟨P,Q,x,y,hA,CQ,eZ,rfl,e⟩:=h
 have hg:=hG.brd
 have MG:=g1.brd
 have hs:=ck hG
 have vL:=ck g1
 refine(bf (ρ':=wt s b0 w least x4 (fz (brd b)) (fz (brd (mC b W P y))) (fz (cL P)) (fz (.lst ((bJ b W w).map D.int))) x9 El Em) ?_).trans rfl
 refine ak (cQ (eN ((aG (y:=brd (mC b W P y)) ((ai (ds:=[brd b, .int (w:Int), .int (least:Int)]) rfl rfl).trans (gN hG hw h1 h2 e)) rfl).trans ((kC jK (by decide) _ _).trans (by rw[decide_eq_true rfl];rfl)))) rfl) ?_
 refine ak (cQ (eN ((aG ((ai (ds:=[brd (mC b W P y), .int (w:Int)]) rfl rfl).trans (eI MG vL hw)) ((ai (ds:=[brd b, .int (w:Int)]) rfl rfl).trans (eI hg hs hw))).trans ((ET _ _).trans (by rw[decide_eq_false (by omega)])))) rfl) ?_
 refine ak (ρ':=wt s b0 w least x4 (fz (brd b)) (fz (brd (mC b W P y))) (fz (cL P)) none x9 El Em) ((aJ (d:=cL P) ?_).trans rfl) ?_
 ·have H_:=hA.gone hw
  refine cE (ds:=(aK b.length W).map cD) (IK ((ai (ds:=[brd b]) rfl rfl).trans (yl hg))) ?_ ?_
  ·rw[show P.map cD=((aK b.length W).filter fun z=>!decide (lt b z=lt (mC b W P y) z)).map cD by rw[H_]]
   refine iM cD (fun z=>!decide (lt b z=lt (mC b W P y) z)) (aK b.length W) fun z hz=>?_
   have MT:=aI.mp hz
   have e:b9 (d2 pU (aj 2 bG (aC (dV 6) (aC (dV 0) aN))) (aj 2 bG (aC (dV 7) (aC (dV 0) aN)))) (fz (cD z)::wt s b0 w least x4 (fz (brd b)) (fz (brd (mC b W P y))) none none x9 El Em)=M.ret (!decide (lt b z=lt (mC b W P y) z)):=
    eN ((aG (x:=sg (lt b z)) (y:=sg (lt (mC b W P y) z)) ((ai (ds:=[brd b,cD z]) rfl rfl).trans (lG hg MT)) ((ai (ds:=[brd (mC b W P y),cD z]) rfl rfl).trans (lG MG (by rw[gr];exact MT)))).trans (kC Fp (by decide) _ _))
   rw[vz,e,aq]
   cases decide (lt b z=lt (mC b W P y) z)<;>rfl
  ·have Iq:RiseC P:=by rw[←d9 hw hA.p hA.xp];exact(bh hw (hA.ox hw)).rise
   have:=iL (bd:=b) (W:=W) (RiseC.nodup Iq) fun z hz=>cU hw P hA.p z hz
   rw[List.length_map,dq]
   omega
 refine ak (ρ':=wt s b0 w least x4 (fz (brd b)) (fz (brd (mC b W P y))) (fz (cL P)) (fz (.lst ((bJ b W w).map D.int))) x9 El Em) ((aJ (qa hs ((ai (ds:=[brd b, .int (w:Int)]) rfl rfl).trans (ip hg hs hw)))).trans rfl) ?_
 have HE:dA a6 (aC (dV 7) aN) (wt s b0 w least x4 (fz (brd b)) (fz (brd (mC b W P y))) (fz (cL P)) (fz (.lst ((bJ b W w).map D.int))) x9 El Em)=M.ret (.int (P.length:Int)):=by
  refine(bY (xs:=[cL P]) rfl).trans ?_
  show M.ret (D.int ((P.map cD).length:Int))=_
  rw[List.length_map]
 refine ak (cQ (xg (p:=false) (q:=false) (eN ((aG (x:=cL P) rfl ((ai (ds:=[brd b, .int (w:Int)]) rfl rfl).trans (ip hg hs hw))).trans ?_)) (eN ((aG HE ((bY (xs:=[.lst ((bJ b W w).map D.int)]) rfl).trans (t_ hg hw))).trans ?_))) rfl) ?_
 ·show (match anyF (cL P) ((ar b W w).map cL) with | some r=>M.ret (D.bl (if true then !r else r)) | none=>M.stuck)=_
  rw[wY,decide_eq_true hA.p]
  rfl
 ·rw[CQ,IV,beq_self_eq_true]
  rfl
 exact cQ (eN ((aG HE (y:= .int (least:Int)) rfl).trans ((ET _ _).trans (by rw[decide_eq_false (by omega)])))) rfl
theorem z9(b:List Str)(r:List (List Str)):di (.lst ((b::r).map brd)) (.int 0)=M.ret (brd b):=by
 show (match L2.atI ((b::r).map brd) ((0:Nat):Int) with | some d=>M.ret d | none=>M.stuck)=_
 rw[du (x:=brd b) rfl]
theorem zT(d:D)(ds:List D):cutD (d::ds) (some 1) none=ds:=by
 unfold cutD
 have e:HT.sIx (d::ds).length 0 (some 1)=1:=by
  have:=HT.sIx_nat (d::ds).length 0 1
  rw[show ((1:Nat):Int)=1 from rfl] at this
  rw[this,List.length_cons]
  omega
 rw[e]
 show ((d::ds).drop 1).take ((d::ds).length - 1)=ds
 simp
theorem zq{least less:Nat}(h:Stop bd W w least)(hl:less≤least):Stop bd W w less:=h.elim .inl fun q=> .inr fun P hP=>Nat.le_trans hl (q P hP)
theorem B1(hw:Ways w):Stop bd W w 1:= .inr fun P hP=>by
 obtain⟨m,m1,_⟩:=c0 hw hP
 exact List.length_pos_of_mem m1
theorem B0(hG:Good bd W)(hw:Ways w)(h:Stop bd W w 64):(ar bd W w).length=1:=by
 rcases h with h | h
 ·exact h
 ·obtain⟨P,hP,_⟩:=gy hG.brd hw (x:=(0,0)) ⟨hG.r1,hG.w1⟩
  obtain⟨m,m1,_,m3,_⟩:=c0 hw hP
  have Iq:RiseC P:=by rw[←d9 hw hP m1];exact(bh hw m3).rise
  have h1:=iL (bd:=bd) (W:=W) (RiseC.nodup Iq) fun z hz=>cU hw P hP z hz
  have:=h P hP
  have:=ck hG
  omega
theorem AK(ns:List Int)(hl:ns.length≤63):iP [.scr ns]=M.ret (.bl true):=by
 obtain⟨bd,W,hG,hE,_,_,eb⟩:=vq ns hl 0 5 (by decide) (by decide)
 have hg:=hG.brd
 have hs:=ck hG
 obtain⟨w,hw,ew⟩:=wO ns hl 60 (ρ:=[fz (.scr ns),fz (brd bd),none,none,none,none,none,none,none,none,none,none]) rfl
 obtain⟨v,hv,ev⟩:=eQ ns hl 61 7 (by decide)
 have h1:1≤1+v:=Nat.le_add_right ..
 have h2:1+v≤64:=by omega
 generalize hq:1+v=least at h1 h2
 obtain⟨r,r1,r2⟩:=fO hG hw least
 obtain⟨l,l1,l2,l3,l4⟩:=oE hw r bd hG r1
 let R:D:= .lst ((bd::r).map brd)
 let s:D:= .scr ns
 refine aS ?_
 refine ak (ρ':=[fz s,fz (brd bd),none,none,none,none,none,none,none,none,none,none]) ((aJ ((ai (ds:=[.scr ns, .int 0, .int 5]) rfl rfl).trans eb)).trans rfl) ?_
 refine ak (ρ':=[fz s,fz (brd bd),fz (.int (w:Int)),none,none,none,none,none,none,none,none,none]) ((aJ ew).trans rfl) ?_
 refine ak (ρ':=wt s (brd bd) w least none none none none none none none none) ((aJ (d:= .int (least:Int)) ?_).trans rfl) ?_
 ·refine(aG (x:= .int 1) rfl ((ai (ds:=[.scr ns, .int ((61:Nat):Int), .int ((7:Nat):Int)]) rfl rfl).trans ev)).trans ?_
  rw[fY,←hq]
  rfl
 refine ak (ρ':=wt s (brd bd) w least (fz R) none none none none none none none) ((aJ ((ai (ds:=[brd bd, .int (w:Int), .int (least:Int)]) rfl rfl).trans (ke hG hw h1 h2 r2))).trans rfl) ?_
 have z0:∀ρ:aX,ρ[4]? =some (fz R)→d2 di (dV 4) (d1 mD (dC (.int 1))) ρ=M.ret (brd l):=fun ρ h=>(aG (x:=R) (y:= .int (-1)) (kz h) rfl).trans (xx l1)
 refine ak (cQ (xg (p:=false) (q:=false) (eN ((aG (x:=brd bd) (y:=brd bd) ((aG (x:=R) (y:= .int 0) rfl rfl).trans (z9 bd r)) rfl).trans ((kC jK (by decide) _ _).trans (by rw[decide_eq_true rfl];rfl)))) (eN ((aG (z0 _ rfl) ((ai (ds:=[brd bd, .int (w:Int), .int (least:Int)]) rfl rfl).trans (jv hG hw h1 h2 r2 l1))).trans ((kC jK (by decide) _ _).trans (by rw[decide_eq_true rfl];rfl))))) rfl) ?_
 refine ak (cQ (eN ((aG (x:= .non) (y:= .non) ((ai (ds:=[brd l, .int (w:Int), .int (least:Int)]) (aT (z0 _ rfl) rfl) rfl).trans (gN l2 hw h1 h2 (oP l2 hw l4).1)) rfl).trans rfl)) rfl) ?_
 refine ak (ρ':=wt s (brd bd) w least (fz R) none none none none none none none) (c9 (fe (ds:=((bd::r).zip r).map fun p=> .tup [brd p.1,brd p.2]) ?_ (kE (body:=Hr) (fun p:List Str×List Str=> .tup [brd p.1,brd p.2]) _ _ fun p hp=>⟨_,rfl,?_⟩))) ?_
 ·have e:(aC (dV 4) (aC (JS (dV 4) (oS (dC (.int 1))) oN) aN)) (wt s (brd bd) w least (fz R) none none none none none none none)=M.ret [.lst ((bd::r).map brd), .lst (r.map brd)]:=by
   refine aT rfl (aT ?_ rfl)
   show M.ret (D.lst (cutD ((bd::r).map brd) (some 1) none))=_
   rw[List.map_cons,zT]
  show ((aC (dV 4) (aC (JS (dV 4) (oS (dC (.int 1))) oN) aN)) _>>=Cd)=_
  rw[e,aq]
  show M.ret ((((bd::r).map brd).zip (r.map brd)).map fun q=>D.tup [q.1,q.2])=_
  rw[List.zip_map,List.map_map]
  rfl
 ·obtain⟨p1,p2⟩:=qE hw r bd hG r1 p hp
  exact zJ p1 hw h1 h2 p2
 refine ak (ρ':=wt s (brd bd) w least (fz R) none none none none (fz (brd l)) none none) ((aJ (z0 _ rfl)).trans rfl) ?_
 have MH:=l2.brd
 have Av:=ck l2
 let X:List (List Cell):=(ar l W w).filter fun P=>decide (P.length<least)
 refine ak (ρ':=wt s (brd bd) w least (fz R) none none none none (fz (brd l)) (fz (.lst (X.map cL))) none) ((aJ (d:= .lst (X.map cL)) ?_).trans rfl) ?_
 ·refine cE (ds:=(ar l W w).map cL) ?_ ?_ ?_
  ·show (aj 2 bN (aC (dV 9) (aC (dV 2) aN)) _>>=lstM)=_
   rw[(ai (ds:=[brd l, .int (w:Int)]) rfl rfl:aj 2 bN (aC (dV 9) (aC (dV 2) aN)) _=_),ip MH Av hw]
   rfl
  ·refine iM cL (fun P=>decide (P.length<least)) (ar l W w) fun P hP=>?_
   have e:b9 (d2 Fv (dA a6 (aC (dV 0) aN)) (dV 4)) (fz (cL P)::wt s (brd bd) w least (fz R) none none none none (fz (brd l)) none none)=M.ret (decide (P.length<least)):=by
    refine eN ((aG (x:= .int (P.length:Int)) (y:= .int (least:Int)) ?_ rfl).trans (IU _ _))
    refine(bY (xs:=[cL P]) rfl).trans ?_
    show M.ret (D.int ((P.map cD).length:Int))=_
    rw[List.length_map]
   rw[vz,e,aq]
   cases decide (P.length<least)<;>rfl
  ·have h3:X.length≤(ar l W w).length:=List.length_filter_le ..
   have:=d5 (bd:=l) (W:=W) (w:=w)
   rw[List.length_map,dq]
   omega
 refine ak (cQ ((Fj (p:=!decide (X=[])) (q:=decide (1<(ar l W w).length)) (eN ((aG (x:= .lst (X.map cL)) (y:= .lst (([]:List (List Cell)).map cL)) rfl rfl).trans (kC (mP (mP z3)) (by decide) X []))) (eN ((aG ((ai (ds:=[brd l, .int (w:Int)]) rfl rfl).trans (eI MH Av hw)) (y:= .int ((1:Nat):Int)) rfl).trans (IT _ _)))).trans ?_) rfl) ?_
 ·rcases l4 with q | q
  ·rw[decide_eq_false (by omega:¬1<(ar l W w).length),Bool.and_false]
  ·have:X=[]:=List.filter_eq_nil_iff.mpr fun P hP=>by
    have:=q P hP
    rw[decide_eq_true_eq]
    omega
   rw[decide_eq_true this]
   rfl
 refine ak (ρ':=wt s (brd bd) w least (fz R) none none none none (fz (brd l)) (fz (.lst (X.map cL))) none) (c9 (fe (ds:=(List.range' 1 (least+1 - 1)).map fun(k:Nat)=>D.int (k:Int)) (GP (i:=1) (j:=least+1) rfl ((aG (x:= .int (least:Int)) (y:= .int 1) rfl rfl).trans rfl) (by decide) (by omega)) (kE (fun (k:Nat)=>D.int (k:Int)) _ _ fun k hk=>⟨_,rfl,?_⟩))) ?_
 ·have hk:=List.mem_range'_1.mp hk
  have vi:=zq l4 (less:=k) (by omega)
  exact(bf (cQ (eN ((aG (y:=brd l) ((ai (ds:=[brd l, .int (w:Int), .int (k:Int)]) rfl rfl).trans (jv (l:=l) l2 hw hk.1 (by omega) (oP l2 hw vi).2 rfl)) rfl).trans ((kC jK (by decide) _ _).trans (by rw[decide_eq_true rfl];rfl)))) rfl)).trans rfl
 obtain⟨r',r3,r4⟩:=fO hG hw 64
 obtain⟨l',m1,m2,m3,m4⟩:=oE hw r' bd hG r3
 refine aE (CC (p:=true) (q:=true) ((aG (y:= .lst ([bd].map brd)) ((ai (ds:=[brd bd, .int (w:Int), .int ((1:Nat):Int)]) rfl rfl).trans (ke hG hw (Nat.le_refl _) (by decide) (oP hG hw (B1 hw)).2)) rfl).trans ((Fo (mP jK) (by decide) [bd] [bd]).trans (by rw[decide_eq_true rfl]))) ((aG (y:= .int 1) ((ai (ds:=[brd l', .int (w:Int)]) (aT ((ai (ds:=[brd bd, .int (w:Int), .int ((64:Nat):Int)]) rfl rfl).trans (jv hG hw (by decide) (Nat.le_refl _) r4 m1)) rfl) rfl).trans (eI m2.brd (ck m2) hw)) rfl).trans ?_))
 rw[B0 m2 hw m4]
 rfl
end
end K1
namespace K1
open PySem PySem.Spec L2 L3
open PyProof.Rows hiding St
def DF(K:W.Frag)(x:Str)(s:Stmt):Prop:=∃(f:Addr) (oc:Value) (od an:Option Addr) (sl:Array (Option Value)) (kV dc pm cd ct:Value),PySem.W.nsIn K mainGlobals x=some (some (.ref f))∧K.lookup f=some ⟨oc,od, .func (PySem.W.fnOf x x (ei s) (aW s) (af s) .none kV dc pm an cd ct),sl⟩∧PySem.W.codeIn K cd x=true∧PySem.W.keepIn K (.ref f)=true
theorem DF.mk{K:W.Frag}{x:Str}{s:Stmt}{f:Addr}{oc:Value}{od an:Option Addr}{sl:Array (Option Value)}{kV dc pm cd ct:Value}(a:PySem.W.nsIn K mainGlobals x=some (some (.ref f)))(l:K.lookup f=some ⟨oc,od, .func (PySem.W.fnOf x x (ei s) (aW s) (af s) .none kV dc pm an cd ct),sl⟩)(c:PySem.W.codeIn K cd x=true)(k:PySem.W.keepIn K (.ref f)=true):DF K x s:=⟨f,oc,od,an,sl,kV,dc,pm,cd,ct,a,l,c,k⟩
theorem DF.at{K:W.Frag}{x:Str}{s:Stmt}{h:Heap}{mg:Str→Option Value}(X:K.In h)(G:h.Ns mainGlobals mg)(d:DF K x s):∃f,bj K mg x s f:=by
 obtain⟨f,oc,od,an,sl,kV,dc,pm,cd,ct,a,l,c,k⟩:=d
 exact⟨f,PySem.W.mg_of X G a,_,Ab (st:=s) l c k⟩
theorem all_mk{P:Program}{w:World}{K:W.Frag}{h:Heap}{mg:Str→Option Value}{fa:Addr}(X:K.In h)(G:h.Ns mainGlobals mg)(NM:mg "law"=some (.ref fa))
 {jq:Addr}{v8 mW:Option Addr}{wD:Array (Option Value)}{v7 nG ng ou jl m_:Value}
 {zr:Tok}
 {uU:Tok}
 {oR:Tok}
 {lh:Tok}
 (d_is_whole:DF K "is_whole" jD)
 (d_is_letter:DF K "is_letter" iy)
 (d_cells_of_row:DF K "cells_of_row" dQ)
 (d_letter_of:DF K "letter_of" iB)
 (d_are_next:DF K "are_next" jB)
 (d_keyed:DF K "keyed" sx)
 (d_numbers_of:DF K "numbers_of" gF)
 (d_law_cell:DF K "_law_cell" jE)
 (d_is_row:DF K "is_row" kc)
 (d_is_cell:DF K "is_cell" k_)
 (d_need_ways:DF K "need_ways" iD)
 (d_all_cells:DF K "all_cells" iw)
 (d_next_cells:DF K "next_cells" gE)
 (d_with_letters:DF K "with_letters" dR)
 (d_law_drawn:DF K "_law_drawn" iz)
 (d_is_board:DF K "is_board" fg)
 (d_need_cell:DF K "need_cell" iC)
 (d_like_cells:DF K "like_cells" eL)
 (d_shared_sides:DF K "shared_sides" fk)
 (d_law_board:DF K "_law_board" fM)
 (d_need_board:DF K "need_board" gD)
 (d_steps_back:DF K "steps_back" gG)
 (d_melts_into:DF K "melts_into" gB)
 (d_cells:DF K "cells" sv)
 (d_letter_at:DF K "letter_at" iA)
 (d_all_patches:DF K "all_patches" fT)
 (d_need_melting:DF K "need_melting" fj)
 (d_patches:DF K "patches" lg)
 (d_how_many:DF K "how_many" jC)
 (d_after_one:DF K "after_one" fL)
 (d_all_steps:DF K "all_steps" ix)
 (d_melted_once:DF K "melted_once" fU)
 (d_melted:DF K "melted" oF)
 (d_steps_of:DF K "steps_of" jF)
 (a_law_k52:PySem.W.nsIn K mainGlobals "law"=some (some (.ref jq)))(l_law_k52:K.lookup jq=some ⟨v7,v8, .func (PySem.W.fnOf "law" "law" (ei au) (aW au) (af au) .none nG ng ou mW jl m_),wD⟩)(c_law_k52:PySem.W.codeIn K jl "law"=true)(k_law_k52:PySem.W.keepIn K (.ref jq)=true)
 (z_len:PySem.W.nsIn K mainGlobals "len"=some none)
 (z_isinstance:PySem.W.nsIn K mainGlobals "isinstance"=some none)
 (z_all:PySem.W.nsIn K mainGlobals "all"=some none)
 (z_abs:PySem.W.nsIn K mainGlobals "abs"=some none)
 (z_max:PySem.W.nsIn K mainGlobals "max"=some none)
 (z_min:PySem.W.nsIn K mainGlobals "min"=some none)
 (z_range:PySem.W.nsIn K mainGlobals "range"=some none)
 (z_str:PySem.W.nsIn K mainGlobals "str"=some none)
 (z_int:PySem.W.nsIn K mainGlobals "int"=some none)
 (z_bool:PySem.W.nsIn K mainGlobals "bool"=some none)
 (z_tuple:PySem.W.nsIn K mainGlobals "tuple"=some none)
 (z_sorted:PySem.W.nsIn K mainGlobals "sorted"=some none)
 (z_enumerate:PySem.W.nsIn K mainGlobals "enumerate"=some none)
 (z_zip:PySem.W.nsIn K mainGlobals "zip"=some none)
 (y_LETTERS:PySem.W.nsIn K mainGlobals "LETTERS"=some (some (.str "abcdef" zr)))
 (y_MOST_ROWS:PySem.W.nsIn K mainGlobals "MOST_ROWS"=some (some (.int 8 uU)))
 (y_MOST_COLUMNS:PySem.W.nsIn K mainGlobals "MOST_COLUMNS"=some (some (.int 8 oR)))
 (y_GREATEST_LEAST:PySem.W.nsIn K mainGlobals "GREATEST_LEAST"=some (some (.int 64 lh))):
 ∃(cv:Nat→Value) (fd:FuncData),(∀(s:Shared) (u:Value),BindsTo s fd ⟨[u],[]⟩ [("_law_script",u)])∧∀base:Heap,K.In base→base.Ns mainGlobals mg→FnOk P w K mg base (kq P w cv) 9 fa fd ["_law_script"] (Hf K cv 1 iP):=by
 have ea:=NM.symm.trans (PySem.W.mg_of X G a_law_k52)
 cases ea
 refine⟨fun _=> .none,PySem.W.fnOf "law" "law" (ei au) (aW au) (af au) .none nG ng ou mW jl m_,fun s v=> .of_eq rfl,fun base KB GB=>?_⟩
 have B:Bl K mg base (fun _=> .none) (fun _=>mainGlobals) mainGlobals:=⟨PySem.W.mg_none_of X G z_len,PySem.W.mg_none_of X G z_isinstance,PySem.W.mg_none_of X G z_all,PySem.W.mg_none_of X G z_abs,PySem.W.mg_none_of X G z_max,PySem.W.mg_none_of X G z_min,PySem.W.mg_none_of X G z_range,PySem.W.mg_none_of X G z_str,PySem.W.mg_none_of X G z_int,PySem.W.mg_none_of X G z_bool,PySem.W.mg_none_of X G z_tuple,PySem.W.mg_none_of X G z_sorted,PySem.W.mg_none_of X G z_enumerate,PySem.W.mg_none_of X G z_zip,⟨_,PySem.W.mg_of X G y_LETTERS⟩,⟨_,PySem.W.mg_of X G y_MOST_ROWS⟩,⟨_,PySem.W.mg_of X G y_MOST_COLUMNS⟩,⟨_,PySem.W.mg_of X G y_GREATEST_LEAST⟩⟩
 have jw:=(DF.at X G d_is_whole).elim fun _ t=>uw (P:=P) (w:=w) B t
 have uh:=(DF.at X G d_is_letter).elim fun _ t=>rM (P:=P) (w:=w) B t
 have h9:=(DF.at X G d_cells_of_row).elim fun _ t=>mE (P:=P) (w:=w) B t
 have fH:=(DF.at X G d_letter_of).elim fun _ t=>rQ (P:=P) (w:=w) B t
 have vX:=(DF.at X G d_are_next).elim fun _ t=>ur (P:=P) (w:=w) B t
 have xF:=(DF.at X G d_keyed).elim fun _ t=>A4 (P:=P) (w:=w) B t
 have rG:=(DF.at X G d_numbers_of).elim fun _ t=>pw (P:=P) (w:=w) B t
 have v3:=(DF.at X G d_law_cell).elim fun _ t=>ux (P:=P) (w:=w) B t
 have A1:=(DF.at X G d_is_row).elim fun _ t=>yX (P:=P) (w:=w) B uh t
 have yU:=(DF.at X G d_is_cell).elim fun _ t=>v_ (P:=P) (w:=w) B jw t
 have ib:=(DF.at X G d_need_ways).elim fun _ t=>rS (P:=P) (w:=w) B jw t
 have h7:=(DF.at X G d_all_cells).elim fun _ t=>rK (P:=P) (w:=w) B h9 t
 have jZ:=(DF.at X G d_next_cells).elim fun _ t=>pq (P:=P) (w:=w) B vX t
 have n6:=(DF.at X G d_with_letters).elim fun _ t=>mH (P:=P) (w:=w) B xF h9 fH t
 have lU:=(DF.at X G d_law_drawn).elim fun _ t=>rO (P:=P) (w:=w) B v3 t
 have vZ:=(DF.at X G d_is_board).elim fun _ t=>uv (P:=P) (w:=w) B A1 t
 have uo:=(DF.at X G d_need_cell).elim fun _ t=>rR (P:=P) (w:=w) B yU t
 have rE:=(DF.at X G d_like_cells).elim fun _ t=>ph (P:=P) (w:=w) B fH jZ t
 have n5:=(DF.at X G d_shared_sides).elim fun _ t=>mG (P:=P) (w:=w) B rG h7 jZ t
 have uk:=(DF.at X G d_law_board).elim fun _ t=>rN (P:=P) (w:=w) B lU t
 have dJ:=(DF.at X G d_need_board).elim fun _ t=>pk (P:=P) (w:=w) B vZ t
 have rH:=(DF.at X G d_steps_back).elim fun _ t=>pz (P:=P) (w:=w) B rE t
 have rF:=(DF.at X G d_melts_into).elim fun _ t=>pj (P:=P) (w:=w) B n5 t
 have Di:=(DF.at X G d_cells).elim fun _ t=>A3 (P:=P) (w:=w) B dJ h7 t
 have um:=(DF.at X G d_letter_at).elim fun _ t=>rP (P:=P) (w:=w) B dJ uo fH t
 have fR:=(DF.at X G d_all_patches).elim fun _ t=>n8 (P:=P) (w:=w) B h7 rH xF t
 have e9:=(DF.at X G d_need_melting).elim fun _ t=>mF (P:=P) (w:=w) B dJ ib jw t
 have yV:=(DF.at X G d_patches).elim fun _ t=>wa (P:=P) (w:=w) B dJ ib fR t
 have vY:=(DF.at X G d_how_many).elim fun _ t=>uu (P:=P) (w:=w) B dJ ib fR t
 have lS:=(DF.at X G d_after_one).elim fun _ t=>rJ (P:=P) (w:=w) B fR rF n6 fH t
 have lT:=(DF.at X G d_all_steps).elim fun _ t=>rL (P:=P) (w:=w) B lS t
 have pf:=(DF.at X G d_melted_once).elim fun _ t=>n9 (P:=P) (w:=w) B e9 lS t
 have A2:=(DF.at X G d_melted).elim fun _ t=>yY (P:=P) (w:=w) B e9 lT t
 have v5:=(DF.at X G d_steps_of).elim fun _ t=>uy (P:=P) (w:=w) B e9 lT t
 exact uq B uk v5 lU pf A2 vY yV Di um (Ab (st:=au) l_law_k52 c_law_k52 k_law_k52)
end K1
open PySem PySem.W PyProof.Rows
set_option maxHeartbeats 0 in
theorem PySem.Challenge.cw_cellpatches_k52_whole_melts_holds : PySem.Challenge.rw_cellpatches_k52_whole_melts.Holds := by
 w_on;o_law
 refine holds_open (q:=K1.uX) (loose:=[]) (Xt:=fun s=>xlAt K1.uX [] s&&recOk (RowW.records (OpenRow.toRowW _)) s) (XP:=XL K1.uX []) (Yf:=Hook.obs (kHook K1.nu K1.nr (fun _=>by kernel_rfl))) (Ya:=Hook.val (kHook K1.nu K1.nr (fun _=>by kernel_rfl))) (YP:=Hook.says (kHook K1.nu K1.nr (fun _=>by kernel_rfl))) (N:=4490) ?hl (Hook.of (kHook K1.nu K1.nr (fun _=>by kernel_rfl))) (Hook.keeps (kHook K1.nu K1.nr (fun _=>by kernel_rfl))) (fun s e=>xl_of s (Bool.and_eq_true_iff.mp e).1) XL.keeps (by rfl) (by rfl) (by rfl) (fun s e=>recFacts_of (Bool.and_eq_true_iff.mp e).2) (by rfl) (by first | assumption | decide+kernel) (by decide+kernel) ⟨rfl,rfl,rfl,rfl,rfl,by decide+kernel⟩ ?hw ?hc
 case hl=>exact K1.Ih
 (case hw=>w_witness2)
 k_fill
 refine L3.JJ (l:=PySem.Challenge.rw_cellpatches_k52_whole_melts) (k:=9) (n:=63) (x:="_law_script") (g:=K1.iP) rfl (by decide) rfl ⟨rfl,by decide,by decide⟩ (fun w h Y=>PySem.W.kIn_of Y) K1.AK ?F
 case F=>
  intro w mg fa h KX G FF
  refine' K1.all_mk KX G FF ?d_is_whole ?d_is_letter ?d_cells_of_row ?d_letter_of ?d_are_next ?d_keyed ?d_numbers_of ?d_law_cell ?d_is_row ?d_is_cell ?d_need_ways ?d_all_cells ?d_next_cells ?d_with_letters ?d_law_drawn ?d_is_board ?d_need_cell ?d_like_cells ?d_shared_sides ?d_law_board ?d_need_board ?d_steps_back ?d_melts_into ?d_cells ?d_letter_at ?d_all_patches ?d_need_melting ?d_patches ?d_how_many ?d_after_one ?d_all_steps ?d_melted_once ?d_melted ?d_steps_of ?a_law_k52 ?l_law_k52 ?c_law_k52 ?k_law_k52 ?z_len ?z_isinstance ?z_all ?z_abs ?z_max ?z_min ?z_range ?z_str ?z_int ?z_bool ?z_tuple ?z_sorted ?z_enumerate ?z_zip ?y_LETTERS ?y_MOST_ROWS ?y_MOST_COLUMNS ?y_GREATEST_LEAST
  (case d_is_whole=>(refine' K1.DF.mk ?a ?l ?c ?k;(case a=>k_is);(case l=>k_is);(case c=>k_is);(case k=>k_is)))
  (case d_is_letter=>(refine' K1.DF.mk ?a ?l ?c ?k;(case a=>k_is);(case l=>k_is);(case c=>k_is);(case k=>k_is)))
  (case d_cells_of_row=>(refine' K1.DF.mk ?a ?l ?c ?k;(case a=>k_is);(case l=>k_is);(case c=>k_is);(case k=>k_is)))
  (case d_letter_of=>(refine' K1.DF.mk ?a ?l ?c ?k;(case a=>k_is);(case l=>k_is);(case c=>k_is);(case k=>k_is)))
  (case d_are_next=>(refine' K1.DF.mk ?a ?l ?c ?k;(case a=>k_is);(case l=>k_is);(case c=>k_is);(case k=>k_is)))
  (case d_keyed=>(refine' K1.DF.mk ?a ?l ?c ?k;(case a=>k_is);(case l=>k_is);(case c=>k_is);(case k=>k_is)))
  (case d_numbers_of=>(refine' K1.DF.mk ?a ?l ?c ?k;(case a=>k_is);(case l=>k_is);(case c=>k_is);(case k=>k_is)))
  (case d_law_cell=>(refine' K1.DF.mk ?a ?l ?c ?k;(case a=>k_is);(case l=>k_is);(case c=>k_is);(case k=>k_is)))
  (case d_is_row=>(refine' K1.DF.mk ?a ?l ?c ?k;(case a=>k_is);(case l=>k_is);(case c=>k_is);(case k=>k_is)))
  (case d_is_cell=>(refine' K1.DF.mk ?a ?l ?c ?k;(case a=>k_is);(case l=>k_is);(case c=>k_is);(case k=>k_is)))
  (case d_need_ways=>(refine' K1.DF.mk ?a ?l ?c ?k;(case a=>k_is);(case l=>k_is);(case c=>k_is);(case k=>k_is)))
  (case d_all_cells=>(refine' K1.DF.mk ?a ?l ?c ?k;(case a=>k_is);(case l=>k_is);(case c=>k_is);(case k=>k_is)))
  (case d_next_cells=>(refine' K1.DF.mk ?a ?l ?c ?k;(case a=>k_is);(case l=>k_is);(case c=>k_is);(case k=>k_is)))
  (case d_with_letters=>(refine' K1.DF.mk ?a ?l ?c ?k;(case a=>k_is);(case l=>k_is);(case c=>k_is);(case k=>k_is)))
  (case d_law_drawn=>(refine' K1.DF.mk ?a ?l ?c ?k;(case a=>k_is);(case l=>k_is);(case c=>k_is);(case k=>k_is)))
  (case d_is_board=>(refine' K1.DF.mk ?a ?l ?c ?k;(case a=>k_is);(case l=>k_is);(case c=>k_is);(case k=>k_is)))
  (case d_need_cell=>(refine' K1.DF.mk ?a ?l ?c ?k;(case a=>k_is);(case l=>k_is);(case c=>k_is);(case k=>k_is)))
  (case d_like_cells=>(refine' K1.DF.mk ?a ?l ?c ?k;(case a=>k_is);(case l=>k_is);(case c=>k_is);(case k=>k_is)))
  (case d_shared_sides=>(refine' K1.DF.mk ?a ?l ?c ?k;(case a=>k_is);(case l=>k_is);(case c=>k_is);(case k=>k_is)))
  (case d_law_board=>(refine' K1.DF.mk ?a ?l ?c ?k;(case a=>k_is);(case l=>k_is);(case c=>k_is);(case k=>k_is)))
  (case d_need_board=>(refine' K1.DF.mk ?a ?l ?c ?k;(case a=>k_is);(case l=>k_is);(case c=>k_is);(case k=>k_is)))
  (case d_steps_back=>(refine' K1.DF.mk ?a ?l ?c ?k;(case a=>k_is);(case l=>k_is);(case c=>k_is);(case k=>k_is)))
  (case d_melts_into=>(refine' K1.DF.mk ?a ?l ?c ?k;(case a=>k_is);(case l=>k_is);(case c=>k_is);(case k=>k_is)))
  (case d_cells=>(refine' K1.DF.mk ?a ?l ?c ?k;(case a=>k_is);(case l=>k_is);(case c=>k_is);(case k=>k_is)))
  (case d_letter_at=>(refine' K1.DF.mk ?a ?l ?c ?k;(case a=>k_is);(case l=>k_is);(case c=>k_is);(case k=>k_is)))
  (case d_all_patches=>(refine' K1.DF.mk ?a ?l ?c ?k;(case a=>k_is);(case l=>k_is);(case c=>k_is);(case k=>k_is)))
  (case d_need_melting=>(refine' K1.DF.mk ?a ?l ?c ?k;(case a=>k_is);(case l=>k_is);(case c=>k_is);(case k=>k_is)))
  (case d_patches=>(refine' K1.DF.mk ?a ?l ?c ?k;(case a=>k_is);(case l=>k_is);(case c=>k_is);(case k=>k_is)))
  (case d_how_many=>(refine' K1.DF.mk ?a ?l ?c ?k;(case a=>k_is);(case l=>k_is);(case c=>k_is);(case k=>k_is)))
  (case d_after_one=>(refine' K1.DF.mk ?a ?l ?c ?k;(case a=>k_is);(case l=>k_is);(case c=>k_is);(case k=>k_is)))
  (case d_all_steps=>(refine' K1.DF.mk ?a ?l ?c ?k;(case a=>k_is);(case l=>k_is);(case c=>k_is);(case k=>k_is)))
  (case d_melted_once=>(refine' K1.DF.mk ?a ?l ?c ?k;(case a=>k_is);(case l=>k_is);(case c=>k_is);(case k=>k_is)))
  (case d_melted=>(refine' K1.DF.mk ?a ?l ?c ?k;(case a=>k_is);(case l=>k_is);(case c=>k_is);(case k=>k_is)))
  (case d_steps_of=>(refine' K1.DF.mk ?a ?l ?c ?k;(case a=>k_is);(case l=>k_is);(case c=>k_is);(case k=>k_is)))
  (case a_law_k52=>k_is)
  (case l_law_k52=>k_is)
  (case c_law_k52=>k_is)
  (case k_law_k52=>k_is)
  (case z_len=>k_is)
  (case z_isinstance=>k_is)
  (case z_all=>k_is)
  (case z_abs=>k_is)
  (case z_max=>k_is)
  (case z_min=>k_is)
  (case z_range=>k_is)
  (case z_str=>k_is)
  (case z_int=>k_is)
  (case z_bool=>k_is)
  (case z_tuple=>k_is)
  (case z_sorted=>k_is)
  (case z_enumerate=>k_is)
  (case z_zip=>k_is)
  (case y_LETTERS=>k_is)
  (case y_MOST_ROWS=>k_is)
  (case y_MOST_COLUMNS=>k_is)
  (case y_GREATEST_LEAST=>k_is)
