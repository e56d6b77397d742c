import PyProof.Rows.All
import Wide.All
import OpenK.AllK
import Wide.FinOn
import Lean
import PyProof.EqAt
import PyProof.EqKinds
import PyProof.TupleCall
import KE.KTryMore
import KE.KRevIter
import KE.KSortTup
import KE.KDictSum
import KE.KRevSl
import PyProof.Rows.TupDisplay
import PyProof.EnumFor
import PyProof.EnumMake
import PyProof.EnumStmt
import PyProof.DictUpdate
import PyProof.AttrMissSeq
import KE.KDictOf
import PyProof.ListStr
import PyProof.SetScanFacts
import PyProof.Rows.SetFrom
import PyProof.TupleKey
import KE.LcSums
import PyProof.ListRange
import PyProof.SeqI3
import KE.KItemsList
import PyProof.ZipIter
import PyProof.Draws
import PyProof.DictItems
import PySem.Challenge.RW_cellpatches_k51_whole_melting
set_option Elab.async false
set_option linter.all false
set_option maxRecDepth 100000
namespace L2
open PySem
def eF(s:Stmt):Arguments:=match s with
 | .FunctionDef _ a _ _ _ _ _ _ _ _=>a
 |_=>{posonlyargs:=[],args:=[],vararg:=none,kwonlyargs:=[],kw_defaults:=[],kwarg:=none,defaults:=[]}
def aR(s:Stmt):List Stmt:=match s with
 | .FunctionDef _ _ b _ _ _ _ _ _ _=>b
 |_=>[]
def af(s:Stmt):Scope:=match s with
 | .FunctionDef _ _ _ _ _ _ sc _ _ _=>sc
 |_=>{kind:= .function,names:=[],isGenerator:=false,isCoroutine:=false}
end L2
namespace K1
open PySem PySem.Spec
def top(i:Nat):Stmt:=PySem.Challenge.pw_cellpatches_k51_whole_melting.main.body.getD i (.Pass ⟨0,0,0,0⟩)
abbrev hS(s:String)(t:Tok):Value:= .str (Str.ofString s) t
abbrev hE(P:Params)(s:String)(t:Tok)(v:Value):DictEntry:={hash:=PyData.keyHash P (Str.ofString s),key:=hS s t,val:=v}
abbrev hT(xs:Array Value):Obj:={cls:= .type "tuple",data:=Data.seq xs}
abbrev hF(s:String)(t:Stmt)(m:Value)(c:Addr):Obj:={cls:= .type "function",data:=Data.func {name:=Str.ofString s,qualname:=Str.ofString s,params:=L2.eF t,body:=FuncBody.stmts (L2.aR t),scope:=L2.af t,globals:=3,closure:=[],defaults:= .none,kwdefaults:= .none,pyModule:=m,code:= .ref c} }
def n4:Params→W.Frag:=fun P=>(nat_lit 2,{cls:= .none,data:=Data.dict #[]})::
 (nat_lit 3,{cls:= .type "dict",data:=Data.dict #[hE P "__name__" 165 (hS "law_cellpatches_k51_whole_melting" 583),hE P "__doc__" 166 .none,hE P "__package__" 167 .none,hE P "__loader__" 168 (.builtin "__main__.__loader__#opaque"),hE P "__spec__" 169 .none,hE P "__annotations__" 170 (.ref 6),hE P "__builtins__" 171 (.ref 4),hE P "__file__" 173 (hS "/claim/cut.py" 172),hE P "__cached__" 174 .none,hE P "PatchError" 206 (.ref 24),hE P "NoBoard" 222 (.ref 37),hE P "NoWays" 238 (.ref 49),hE P "NoCell" 254 (.ref 61),hE P "NoNumber" 270 (.ref 73),hE P "LETTERS" 274 (hS "abcdef" 273),hE P "MOST_ROWS" 276 (.int 8 275),hE P "MOST_COLUMNS" 278 (.int 8 277),hE P "is_whole" 285 (.ref 82),hE P "is_letter" 292 (.ref 89),hE P "is_row" 298 (.ref 94),hE P "is_board" 304 (.ref 99),hE P "is_cell" 312 (.ref 106),hE P "need_board" 319 (.ref 113),hE P "need_cell" 327 (.ref 120),hE P "need_ways" 334 (.ref 127),hE P "cells_of_row" 340 (.ref 132),hE P "all_cells" 349 (.ref 139),hE P "letter_of" 357 (.ref 146),hE P "are_next" 368 (.ref 153),hE P "next_cells" 380 (.ref 160),hE P "keyed" 389 (.ref 167),hE P "with_letters" 395 (.ref 172),hE P "letter_at" 403 (.ref 179),hE P "letters" 409 (.ref 184),hE P "like_cells" 417 (.ref 189),hE P "steps_back" 431 (.ref 196),hE P "all_patches" 443 (.ref 203),hE P "numbers_of" 454 (.ref 210),hE P "patches" 462 (.ref 217),hE P "how_many" 470 (.ref 224),hE P "need_number" 480 (.ref 231),hE P "patch_of_number" 490 (.ref 238),hE P "shared_sides" 503 (.ref 245),hE P "size" 512 (.ref 252),hE P "GREATEST_LEAST" 516 (.int 64 515),hE P "need_melting" 525 (.ref 259),hE P "melts_into" 538 (.ref 266),hE P "after_one" 544 (.ref 271),hE P "all_steps" 555 (.ref 278),hE P "melted_once" 564 (.ref 285),hE P "melted" 573 (.ref 292),hE P "steps_of" 582 (.ref 299),hE P "_law_cell" 592 (.ref 306),hE P "_law_drawn" 602 (.ref 313),hE P "_law_board" 608 (.ref 318),hE P "_law_cells" 614 (.ref 323),hE P "_law_beside" 629 (.ref 330),hE P "law" 635 (.ref 335)] 58})::
 (nat_lit 15,hT #[.type "ValueError"])::
 (nat_lit 22,hT #[])::
 (nat_lit 23,{cls:= .type "dict",data:=Data.dict #[hE P "__module__" 196 (hS "cellpatches.errors" 187),hE P "__firstlineno__" 200 (.int 2 199),hE P "__static_attributes__" 201 (.ref 22),hE P "__weakref__" 203 (.ref 25),hE P "__doc__" 204 .none] 3})::
 (nat_lit 24,{cls:= .type "type",data:=Data.cls {name:=Str.ofString "PatchError",bases:=[.type "ValueError"],mro:=[.ref 24, .type "ValueError", .type "Exception", .type "BaseException", .type "object"],ns:=23,qualname:=Str.ofString "PatchError",subclasses:=[.ref 37, .ref 49, .ref 61, .ref 73]},slots:= #[some (.ref 15),none,some (hS "PatchError" 189),some (hS "PatchError" 197),some (.builtin "ValueError.__new__"),some (.bool true)]})::
 (nat_lit 25,{cls:= .type "getset_descriptor",data:=Data.fields #[hS "__weakref__" 202, .ref 24, .builtin "ExceptionGroup.__weakref__", .none]})::
 (nat_lit 28,hT #[.ref 24])::
 (nat_lit 35,hT #[])::
 (nat_lit 36,{cls:= .type "dict",data:=Data.dict #[hE P "__module__" 214 (hS "cellpatches.errors" 187),hE P "__firstlineno__" 218 (.int 4 217),hE P "__static_attributes__" 219 (.ref 35),hE P "__doc__" 220 .none] 2})::
 (nat_lit 37,{cls:= .type "type",data:=Data.cls {name:=Str.ofString "NoBoard",bases:=[.ref 24],mro:=[.ref 37, .ref 24, .type "ValueError", .type "Exception", .type "BaseException", .type "object"],ns:=36,qualname:=Str.ofString "NoBoard"},slots:= #[some (.ref 28),none,some (hS "NoBoard" 207),some (hS "NoBoard" 215),some (.builtin "ValueError.__new__"),some (.bool true)]})::
 (nat_lit 40,hT #[.ref 24])::
 (nat_lit 47,hT #[])::
 (nat_lit 48,{cls:= .type "dict",data:=Data.dict #[hE P "__module__" 230 (hS "cellpatches.errors" 187),hE P "__firstlineno__" 234 (.int 6 233),hE P "__static_attributes__" 235 (.ref 47),hE P "__doc__" 236 .none] 2})::
 (nat_lit 49,{cls:= .type "type",data:=Data.cls {name:=Str.ofString "NoWays",bases:=[.ref 24],mro:=[.ref 49, .ref 24, .type "ValueError", .type "Exception", .type "BaseException", .type "object"],ns:=48,qualname:=Str.ofString "NoWays"},slots:= #[some (.ref 40),none,some (hS "NoWays" 223),some (hS "NoWays" 231),some (.builtin "ValueError.__new__"),some (.bool true)]})::
 (nat_lit 52,hT #[.ref 24])::
 (nat_lit 59,hT #[])::
 (nat_lit 60,{cls:= .type "dict",data:=Data.dict #[hE P "__module__" 246 (hS "cellpatches.errors" 187),hE P "__firstlineno__" 250 (.int 8 249),hE P "__static_attributes__" 251 (.ref 59),hE P "__doc__" 252 .none] 2})::
 (nat_lit 61,{cls:= .type "type",data:=Data.cls {name:=Str.ofString "NoCell",bases:=[.ref 24],mro:=[.ref 61, .ref 24, .type "ValueError", .type "Exception", .type "BaseException", .type "object"],ns:=60,qualname:=Str.ofString "NoCell"},slots:= #[some (.ref 52),none,some (hS "NoCell" 239),some (hS "NoCell" 247),some (.builtin "ValueError.__new__"),some (.bool true)]})::
 (nat_lit 64,hT #[.ref 24])::
 (nat_lit 71,hT #[])::
 (nat_lit 72,{cls:= .type "dict",data:=Data.dict #[hE P "__module__" 262 (hS "cellpatches.errors" 187),hE P "__firstlineno__" 266 (.int 10 265),hE P "__static_attributes__" 267 (.ref 71),hE P "__doc__" 268 .none] 2})::
 (nat_lit 73,{cls:= .type "type",data:=Data.cls {name:=Str.ofString "NoNumber",bases:=[.ref 24],mro:=[.ref 73, .ref 24, .type "ValueError", .type "Exception", .type "BaseException", .type "object"],ns:=72,qualname:=Str.ofString "NoNumber"},slots:= #[some (.ref 64),none,some (hS "NoNumber" 255),some (hS "NoNumber" 263),some (.builtin "ValueError.__new__"),some (.bool true)]})::
 (nat_lit 76,hT #[])::
 (nat_lit 78,hT #[hS "thing" 282])::
 (nat_lit 79,hT #[])::
 (nat_lit 81,{cls:= .type "code",data:=Data.fields #[hS "is_whole" 279,hS "is_whole" 280,hS "/claim/cut.py" 281, .int 16 0, .int 1 0, .int 0 0, .int 0 0, .int 3 0, .ref 76, .bool true, .int 181 0, .ref 77, .none, .ref 78, .ref 79, .ref 80, .int 283 0, .int 16 0,hS "/claim/cut.py" 284]})::
 (nat_lit 82,hF "is_whole" (top 10) (hS "cellpatches.boards" 271) 81)::
 (nat_lit 83,hT #[])::
 (nat_lit 85,hT #[hS "thing" 289])::
 (nat_lit 86,hT #[])::
 (nat_lit 88,{cls:= .type "code",data:=Data.fields #[hS "is_letter" 286,hS "is_letter" 287,hS "/claim/cut.py" 288, .int 18 0, .int 1 0, .int 0 0, .int 0 0, .int 3 0, .ref 83, .bool true, .int 181 0, .ref 84, .none, .ref 85, .ref 86, .ref 87, .int 290 0, .int 18 0,hS "/claim/cut.py" 291]})::
 (nat_lit 89,hF "is_letter" (top 11) (hS "cellpatches.boards" 271) 88)::
 (nat_lit 90,hT #[])::
 (nat_lit 93,{cls:= .type "code",data:=Data.fields #[hS "is_row" 293,hS "is_row" 294,hS "/claim/cut.py" 295, .int 20 0, .int 1 0, .int 0 0, .int 0 0, .int 3 0, .ref 90, .bool true, .int 181 0, .ref 91, .none, .none, .none, .ref 92, .int 296 0, .int 20 0,hS "/claim/cut.py" 297]})::
 (nat_lit 94,hF "is_row" (top 12) (hS "cellpatches.boards" 271) 93)::
 (nat_lit 95,hT #[])::
 (nat_lit 98,{cls:= .type "code",data:=Data.fields #[hS "is_board" 299,hS "is_board" 300,hS "/claim/cut.py" 301, .int 24 0, .int 1 0, .int 0 0, .int 0 0, .int 3 0, .ref 95, .bool true, .int 181 0, .ref 96, .none, .none, .none, .ref 97, .int 302 0, .int 24 0,hS "/claim/cut.py" 303]})::
 (nat_lit 99,hF "is_board" (top 13) (hS "cellpatches.boards" 271) 98)::
 (nat_lit 100,hT #[])::
 (nat_lit 102,hT #[hS "board" 308,hS "thing" 309])::
 (nat_lit 103,hT #[])::
 (nat_lit 105,{cls:= .type "code",data:=Data.fields #[hS "is_cell" 305,hS "is_cell" 306,hS "/claim/cut.py" 307, .int 30 0, .int 2 0, .int 0 0, .int 0 0, .int 3 0, .ref 100, .bool true, .int 181 0, .ref 101, .none, .ref 102, .ref 103, .ref 104, .int 310 0, .int 30 0,hS "/claim/cut.py" 311]})::
 (nat_lit 106,hF "is_cell" (top 14) (hS "cellpatches.boards" 271) 105)::
 (nat_lit 107,hT #[])::
 (nat_lit 109,hT #[hS "thing" 316])::
 (nat_lit 110,hT #[])::
 (nat_lit 112,{cls:= .type "code",data:=Data.fields #[hS "need_board" 313,hS "need_board" 314,hS "/claim/cut.py" 315, .int 36 0, .int 1 0, .int 0 0, .int 0 0, .int 3 0, .ref 107, .bool true, .int 181 0, .ref 108, .none, .ref 109, .ref 110, .ref 111, .int 317 0, .int 36 0,hS "/claim/cut.py" 318]})::
 (nat_lit 113,hF "need_board" (top 15) (hS "cellpatches.boards" 271) 112)::
 (nat_lit 114,hT #[])::
 (nat_lit 116,hT #[hS "board" 323,hS "thing" 324])::
 (nat_lit 117,hT #[])::
 (nat_lit 119,{cls:= .type "code",data:=Data.fields #[hS "need_cell" 320,hS "need_cell" 321,hS "/claim/cut.py" 322, .int 39 0, .int 2 0, .int 0 0, .int 0 0, .int 3 0, .ref 114, .bool true, .int 181 0, .ref 115, .none, .ref 116, .ref 117, .ref 118, .int 325 0, .int 39 0,hS "/claim/cut.py" 326]})::
 (nat_lit 120,hF "need_cell" (top 16) (hS "cellpatches.boards" 271) 119)::
 (nat_lit 121,hT #[])::
 (nat_lit 123,hT #[hS "thing" 331])::
 (nat_lit 124,hT #[])::
 (nat_lit 126,{cls:= .type "code",data:=Data.fields #[hS "need_ways" 328,hS "need_ways" 329,hS "/claim/cut.py" 330, .int 42 0, .int 1 0, .int 0 0, .int 0 0, .int 3 0, .ref 121, .bool true, .int 181 0, .ref 122, .none, .ref 123, .ref 124, .ref 125, .int 332 0, .int 42 0,hS "/claim/cut.py" 333]})::
 (nat_lit 127,hF "need_ways" (top 17) (hS "cellpatches.boards" 271) 126)::
 (nat_lit 128,hT #[])::
 (nat_lit 131,{cls:= .type "code",data:=Data.fields #[hS "cells_of_row" 335,hS "cells_of_row" 336,hS "/claim/cut.py" 337, .int 45 0, .int 2 0, .int 0 0, .int 0 0, .int 3 0, .ref 128, .bool true, .int 181 0, .ref 129, .none, .none, .none, .ref 130, .int 338 0, .int 45 0,hS "/claim/cut.py" 339]})::
 (nat_lit 132,hF "cells_of_row" (top 18) (hS "cellpatches.boards" 271) 131)::
 (nat_lit 133,hT #[])::
 (nat_lit 135,hT #[hS "board" 344,hS "found" 345,hS "row" 346])::
 (nat_lit 136,hT #[])::
 (nat_lit 138,{cls:= .type "code",data:=Data.fields #[hS "all_cells" 341,hS "all_cells" 342,hS "/claim/cut.py" 343, .int 47 0, .int 1 0, .int 0 0, .int 0 0, .int 3 0, .ref 133, .bool true, .int 181 0, .ref 134, .none, .ref 135, .ref 136, .ref 137, .int 347 0, .int 47 0,hS "/claim/cut.py" 348]})::
 (nat_lit 139,hF "all_cells" (top 19) (hS "cellpatches.boards" 271) 138)::
 (nat_lit 140,hT #[])::
 (nat_lit 142,hT #[hS "board" 353,hS "cell" 354])::
 (nat_lit 143,hT #[])::
 (nat_lit 145,{cls:= .type "code",data:=Data.fields #[hS "letter_of" 350,hS "letter_of" 351,hS "/claim/cut.py" 352, .int 52 0, .int 2 0, .int 0 0, .int 0 0, .int 3 0, .ref 140, .bool true, .int 181 0, .ref 141, .none, .ref 142, .ref 143, .ref 144, .int 355 0, .int 52 0,hS "/claim/cut.py" 356]})::
 (nat_lit 146,hF "letter_of" (top 20) (hS "cellpatches.boards" 271) 145)::
 (nat_lit 147,hT #[])::
 (nat_lit 149,hT #[hS "one" 361,hS "other" 362,hS "ways" 363,hS "down" 364,hS "along" 365])::
 (nat_lit 150,hT #[])::
 (nat_lit 152,{cls:= .type "code",data:=Data.fields #[hS "are_next" 358,hS "are_next" 359,hS "/claim/cut.py" 360, .int 54 0, .int 3 0, .int 0 0, .int 0 0, .int 3 0, .ref 147, .bool true, .int 181 0, .ref 148, .none, .ref 149, .ref 150, .ref 151, .int 366 0, .int 54 0,hS "/claim/cut.py" 367]})::
 (nat_lit 153,hF "are_next" (top 21) (hS "cellpatches.boards" 271) 152)::
 (nat_lit 154,hT #[])::
 (nat_lit 156,hT #[hS "board" 372,hS "cell" 373,hS "ways" 374,hS "found" 375,hS "row" 376,hS "column" 377])::
 (nat_lit 157,hT #[])::
 (nat_lit 159,{cls:= .type "code",data:=Data.fields #[hS "next_cells" 369,hS "next_cells" 370,hS "/claim/cut.py" 371, .int 60 0, .int 3 0, .int 0 0, .int 0 0, .int 3 0, .ref 154, .bool true, .int 181 0, .ref 155, .none, .ref 156, .ref 157, .ref 158, .int 378 0, .int 60 0,hS "/claim/cut.py" 379]})::
 (nat_lit 160,hF "next_cells" (top 22) (hS "cellpatches.boards" 271) 159)::
 (nat_lit 161,hT #[])::
 (nat_lit 163,hT #[hS "things" 384,hS "found" 385,hS "thing" 386])::
 (nat_lit 164,hT #[])::
 (nat_lit 166,{cls:= .type "code",data:=Data.fields #[hS "keyed" 381,hS "keyed" 382,hS "/claim/cut.py" 383, .int 67 0, .int 1 0, .int 0 0, .int 0 0, .int 3 0, .ref 161, .bool true, .int 181 0, .ref 162, .none, .ref 163, .ref 164, .ref 165, .int 387 0, .int 67 0,hS "/claim/cut.py" 388]})::
 (nat_lit 167,hF "keyed" (top 23) (hS "cellpatches.boards" 271) 166)::
 (nat_lit 168,hT #[])::
 (nat_lit 171,{cls:= .type "code",data:=Data.fields #[hS "with_letters" 390,hS "with_letters" 391,hS "/claim/cut.py" 392, .int 72 0, .int 3 0, .int 0 0, .int 0 0, .int 3 0, .ref 168, .bool true, .int 181 0, .ref 169, .none, .none, .none, .ref 170, .int 393 0, .int 72 0,hS "/claim/cut.py" 394]})::
 (nat_lit 172,hF "with_letters" (top 24) (hS "cellpatches.boards" 271) 171)::
 (nat_lit 173,hT #[])::
 (nat_lit 175,hT #[hS "board" 399,hS "cell" 400])::
 (nat_lit 176,hT #[])::
 (nat_lit 178,{cls:= .type "code",data:=Data.fields #[hS "letter_at" 396,hS "letter_at" 397,hS "/claim/cut.py" 398, .int 79 0, .int 2 0, .int 0 0, .int 0 0, .int 3 0, .ref 173, .bool true, .int 181 0, .ref 174, .none, .ref 175, .ref 176, .ref 177, .int 401 0, .int 79 0,hS "/claim/cut.py" 402]})::
 (nat_lit 179,hF "letter_at" (top 25) (hS "cellpatches.boards" 271) 178)::
 (nat_lit 180,hT #[])::
 (nat_lit 183,{cls:= .type "code",data:=Data.fields #[hS "letters" 404,hS "letters" 405,hS "/claim/cut.py" 406, .int 83 0, .int 1 0, .int 0 0, .int 0 0, .int 3 0, .ref 180, .bool true, .int 181 0, .ref 181, .none, .none, .none, .ref 182, .int 407 0, .int 83 0,hS "/claim/cut.py" 408]})::
 (nat_lit 184,hF "letters" (top 26) (hS "cellpatches.boards" 271) 183)::
 (nat_lit 185,hT #[])::
 (nat_lit 188,{cls:= .type "code",data:=Data.fields #[hS "like_cells" 412,hS "like_cells" 413,hS "/claim/cut.py" 414, .int 88 0, .int 3 0, .int 0 0, .int 0 0, .int 3 0, .ref 185, .bool true, .int 181 0, .ref 186, .none, .none, .none, .ref 187, .int 415 0, .int 88 0,hS "/claim/cut.py" 416]})::
 (nat_lit 189,hF "like_cells" (top 28) (hS "cellpatches.patches" 410) 188)::
 (nat_lit 190,hT #[])::
 (nat_lit 192,hT #[hS "board" 421,hS "start" 422,hS "ways" 423,hS "back" 424,hS "ring" 425,hS "further" 426,hS "cell" 427,hS "near" 428])::
 (nat_lit 193,hT #[])::
 (nat_lit 195,{cls:= .type "code",data:=Data.fields #[hS "steps_back" 418,hS "steps_back" 419,hS "/claim/cut.py" 420, .int 91 0, .int 3 0, .int 0 0, .int 0 0, .int 3 0, .ref 190, .bool true, .int 181 0, .ref 191, .none, .ref 192, .ref 193, .ref 194, .int 429 0, .int 91 0,hS "/claim/cut.py" 430]})::
 (nat_lit 196,hF "steps_back" (top 29) (hS "cellpatches.patches" 410) 195)::
 (nat_lit 197,hT #[])::
 (nat_lit 199,hT #[hS "board" 435,hS "ways" 436,hS "found" 437,hS "seen" 438,hS "cell" 439,hS "patch" 440])::
 (nat_lit 200,hT #[])::
 (nat_lit 202,{cls:= .type "code",data:=Data.fields #[hS "all_patches" 432,hS "all_patches" 433,hS "/claim/cut.py" 434, .int 103 0, .int 2 0, .int 0 0, .int 0 0, .int 3 0, .ref 197, .bool true, .int 181 0, .ref 198, .none, .ref 199, .ref 200, .ref 201, .int 441 0, .int 103 0,hS "/claim/cut.py" 442]})::
 (nat_lit 203,hF "all_patches" (top 30) (hS "cellpatches.patches" 410) 202)::
 (nat_lit 204,hT #[])::
 (nat_lit 206,hT #[hS "found" 447,hS "numbers" 448,hS "number" 449,hS "patch" 450,hS "cell" 451])::
 (nat_lit 207,hT #[])::
 (nat_lit 209,{cls:= .type "code",data:=Data.fields #[hS "numbers_of" 444,hS "numbers_of" 445,hS "/claim/cut.py" 446, .int 112 0, .int 1 0, .int 0 0, .int 0 0, .int 3 0, .ref 204, .bool true, .int 181 0, .ref 205, .none, .ref 206, .ref 207, .ref 208, .int 452 0, .int 112 0,hS "/claim/cut.py" 453]})::
 (nat_lit 210,hF "numbers_of" (top 31) (hS "cellpatches.patches" 410) 209)::
 (nat_lit 211,hT #[])::
 (nat_lit 213,hT #[hS "board" 458,hS "ways" 459])::
 (nat_lit 214,hT #[])::
 (nat_lit 216,{cls:= .type "code",data:=Data.fields #[hS "patches" 455,hS "patches" 456,hS "/claim/cut.py" 457, .int 118 0, .int 2 0, .int 0 0, .int 0 0, .int 3 0, .ref 211, .bool true, .int 181 0, .ref 212, .none, .ref 213, .ref 214, .ref 215, .int 460 0, .int 118 0,hS "/claim/cut.py" 461]})::
 (nat_lit 217,hF "patches" (top 32) (hS "cellpatches.patches" 410) 216)::
 (nat_lit 218,hT #[])::
 (nat_lit 220,hT #[hS "board" 466,hS "ways" 467])::
 (nat_lit 221,hT #[])::
 (nat_lit 223,{cls:= .type "code",data:=Data.fields #[hS "how_many" 463,hS "how_many" 464,hS "/claim/cut.py" 465, .int 122 0, .int 2 0, .int 0 0, .int 0 0, .int 3 0, .ref 218, .bool true, .int 181 0, .ref 219, .none, .ref 220, .ref 221, .ref 222, .int 468 0, .int 122 0,hS "/claim/cut.py" 469]})::
 (nat_lit 224,hF "how_many" (top 33) (hS "cellpatches.patches" 410) 223)::
 (nat_lit 225,hT #[])::
 (nat_lit 227,hT #[hS "many" 476,hS "thing" 477])::
 (nat_lit 228,hT #[])::
 (nat_lit 230,{cls:= .type "code",data:=Data.fields #[hS "need_number" 473,hS "need_number" 474,hS "/claim/cut.py" 475, .int 127 0, .int 2 0, .int 0 0, .int 0 0, .int 3 0, .ref 225, .bool true, .int 181 0, .ref 226, .none, .ref 227, .ref 228, .ref 229, .int 478 0, .int 127 0,hS "/claim/cut.py" 479]})::
 (nat_lit 231,hF "need_number" (top 35) (hS "cellpatches.measures" 471) 230)::
 (nat_lit 232,hT #[])::
 (nat_lit 234,hT #[hS "board" 484,hS "ways" 485,hS "number" 486,hS "found" 487])::
 (nat_lit 235,hT #[])::
 (nat_lit 237,{cls:= .type "code",data:=Data.fields #[hS "patch_of_number" 481,hS "patch_of_number" 482,hS "/claim/cut.py" 483, .int 130 0, .int 3 0, .int 0 0, .int 0 0, .int 3 0, .ref 232, .bool true, .int 181 0, .ref 233, .none, .ref 234, .ref 235, .ref 236, .int 488 0, .int 130 0,hS "/claim/cut.py" 489]})::
 (nat_lit 238,hF "patch_of_number" (top 36) (hS "cellpatches.measures" 471) 237)::
 (nat_lit 239,hT #[])::
 (nat_lit 241,hT #[hS "board" 494,hS "found" 495,hS "numbers" 496,hS "shared" 497,hS "cell" 498,hS "near" 499,hS "pair" 500])::
 (nat_lit 242,hT #[])::
 (nat_lit 244,{cls:= .type "code",data:=Data.fields #[hS "shared_sides" 491,hS "shared_sides" 492,hS "/claim/cut.py" 493, .int 136 0, .int 2 0, .int 0 0, .int 0 0, .int 3 0, .ref 239, .bool true, .int 181 0, .ref 240, .none, .ref 241, .ref 242, .ref 243, .int 501 0, .int 136 0,hS "/claim/cut.py" 502]})::
 (nat_lit 245,hF "shared_sides" (top 37) (hS "cellpatches.measures" 471) 244)::
 (nat_lit 246,hT #[])::
 (nat_lit 248,hT #[hS "board" 507,hS "ways" 508,hS "number" 509])::
 (nat_lit 249,hT #[])::
 (nat_lit 251,{cls:= .type "code",data:=Data.fields #[hS "size" 504,hS "size" 505,hS "/claim/cut.py" 506, .int 145 0, .int 3 0, .int 0 0, .int 0 0, .int 3 0, .ref 246, .bool true, .int 181 0, .ref 247, .none, .ref 248, .ref 249, .ref 250, .int 510 0, .int 145 0,hS "/claim/cut.py" 511]})::
 (nat_lit 252,hF "size" (top 38) (hS "cellpatches.measures" 471) 251)::
 (nat_lit 253,hT #[])::
 (nat_lit 255,hT #[hS "board" 520,hS "ways" 521,hS "least" 522])::
 (nat_lit 256,hT #[])::
 (nat_lit 258,{cls:= .type "code",data:=Data.fields #[hS "need_melting" 517,hS "need_melting" 518,hS "/claim/cut.py" 519, .int 149 0, .int 3 0, .int 0 0, .int 0 0, .int 3 0, .ref 253, .bool true, .int 181 0, .ref 254, .none, .ref 255, .ref 256, .ref 257, .int 523 0, .int 149 0,hS "/claim/cut.py" 524]})::
 (nat_lit 259,hF "need_melting" (top 41) (hS "cellpatches.melting" 513) 258)::
 (nat_lit 260,hT #[])::
 (nat_lit 262,hT #[hS "board" 529,hS "found" 530,hS "number" 531,hS "choices" 532,hS "pair" 533,hS "sides" 534,hS "other" 535])::
 (nat_lit 263,hT #[])::
 (nat_lit 265,{cls:= .type "code",data:=Data.fields #[hS "melts_into" 526,hS "melts_into" 527,hS "/claim/cut.py" 528, .int 154 0, .int 3 0, .int 0 0, .int 0 0, .int 3 0, .ref 260, .bool true, .int 181 0, .ref 261, .none, .ref 262, .ref 263, .ref 264, .int 536 0, .int 154 0,hS "/claim/cut.py" 537]})::
 (nat_lit 266,hF "melts_into" (top 42) (hS "cellpatches.melting" 513) 265)::
 (nat_lit 267,hT #[])::
 (nat_lit 270,{cls:= .type "code",data:=Data.fields #[hS "after_one" 539,hS "after_one" 540,hS "/claim/cut.py" 541, .int 161 0, .int 3 0, .int 0 0, .int 0 0, .int 3 0, .ref 267, .bool true, .int 181 0, .ref 268, .none, .none, .none, .ref 269, .int 542 0, .int 161 0,hS "/claim/cut.py" 543]})::
 (nat_lit 271,hF "after_one" (top 43) (hS "cellpatches.melting" 513) 270)::
 (nat_lit 272,hT #[])::
 (nat_lit 274,hT #[hS "board" 548,hS "ways" 549,hS "least" 550,hS "told" 551,hS "now" 552])::
 (nat_lit 275,hT #[])::
 (nat_lit 277,{cls:= .type "code",data:=Data.fields #[hS "all_steps" 545,hS "all_steps" 546,hS "/claim/cut.py" 547, .int 169 0, .int 3 0, .int 0 0, .int 0 0, .int 3 0, .ref 272, .bool true, .int 181 0, .ref 273, .none, .ref 274, .ref 275, .ref 276, .int 553 0, .int 169 0,hS "/claim/cut.py" 554]})::
 (nat_lit 278,hF "all_steps" (top 44) (hS "cellpatches.melting" 513) 277)::
 (nat_lit 279,hT #[])::
 (nat_lit 281,hT #[hS "board" 559,hS "ways" 560,hS "least" 561])::
 (nat_lit 282,hT #[])::
 (nat_lit 284,{cls:= .type "code",data:=Data.fields #[hS "melted_once" 556,hS "melted_once" 557,hS "/claim/cut.py" 558, .int 176 0, .int 3 0, .int 0 0, .int 0 0, .int 3 0, .ref 279, .bool true, .int 181 0, .ref 280, .none, .ref 281, .ref 282, .ref 283, .int 562 0, .int 176 0,hS "/claim/cut.py" 563]})::
 (nat_lit 285,hF "melted_once" (top 45) (hS "cellpatches.melting" 513) 284)::
 (nat_lit 286,hT #[])::
 (nat_lit 288,hT #[hS "board" 568,hS "ways" 569,hS "least" 570])::
 (nat_lit 289,hT #[])::
 (nat_lit 291,{cls:= .type "code",data:=Data.fields #[hS "melted" 565,hS "melted" 566,hS "/claim/cut.py" 567, .int 179 0, .int 3 0, .int 0 0, .int 0 0, .int 3 0, .ref 286, .bool true, .int 181 0, .ref 287, .none, .ref 288, .ref 289, .ref 290, .int 571 0, .int 179 0,hS "/claim/cut.py" 572]})::
 (nat_lit 292,hF "melted" (top 46) (hS "cellpatches.melting" 513) 291)::
 (nat_lit 293,hT #[])::
 (nat_lit 295,hT #[hS "board" 577,hS "ways" 578,hS "least" 579])::
 (nat_lit 296,hT #[])::
 (nat_lit 298,{cls:= .type "code",data:=Data.fields #[hS "steps_of" 574,hS "steps_of" 575,hS "/claim/cut.py" 576, .int 182 0, .int 3 0, .int 0 0, .int 0 0, .int 3 0, .ref 293, .bool true, .int 181 0, .ref 294, .none, .ref 295, .ref 296, .ref 297, .int 580 0, .int 182 0,hS "/claim/cut.py" 581]})::
 (nat_lit 299,hF "steps_of" (top 47) (hS "cellpatches.melting" 513) 298)::
 (nat_lit 300,hT #[])::
 (nat_lit 302,hT #[hS "_law_script" 588,hS "_law_k" 589])::
 (nat_lit 303,hT #[])::
 (nat_lit 305,{cls:= .type "code",data:=Data.fields #[hS "_law_cell" 585,hS "_law_cell" 586,hS "/claim/cut.py" 587, .int 186 0, .int 2 0, .int 0 0, .int 0 0, .int 3 0, .ref 300, .bool true, .int 181 0, .ref 301, .none, .ref 302, .ref 303, .ref 304, .int 590 0, .int 186 0,hS "/claim/cut.py" 591]})::
 (nat_lit 306,hF "_law_cell" (top 49) (hS "law_cellpatches_k51_whole_melting" 583) 305)::
 (nat_lit 307,hT #[])::
 (nat_lit 309,hT #[hS "_law_script" 596,hS "_law_k" 597,hS "_law_many" 598,hS "_law_cell_here" 599])::
 (nat_lit 310,hT #[])::
 (nat_lit 312,{cls:= .type "code",data:=Data.fields #[hS "_law_drawn" 593,hS "_law_drawn" 594,hS "/claim/cut.py" 595, .int 190 0, .int 3 0, .int 0 0, .int 0 0, .int 3 0, .ref 307, .bool true, .int 181 0, .ref 308, .none, .ref 309, .ref 310, .ref 311, .int 600 0, .int 190 0,hS "/claim/cut.py" 601]})::
 (nat_lit 313,hF "_law_drawn" (top 50) (hS "law_cellpatches_k51_whole_melting" 583) 312)::
 (nat_lit 314,hT #[])::
 (nat_lit 317,{cls:= .type "code",data:=Data.fields #[hS "_law_board" 603,hS "_law_board" 604,hS "/claim/cut.py" 605, .int 194 0, .int 3 0, .int 0 0, .int 0 0, .int 3 0, .ref 314, .bool true, .int 181 0, .ref 315, .none, .none, .none, .ref 316, .int 606 0, .int 194 0,hS "/claim/cut.py" 607]})::
 (nat_lit 318,hF "_law_board" (top 51) (hS "law_cellpatches_k51_whole_melting" 583) 317)::
 (nat_lit 331,hT #[])::
 (nat_lit 334,{cls:= .type "code",data:=Data.fields #[hS "law" 630,hS "law" 631,hS "/claim/cut.py" 632, .int 218 0, .int 1 0, .int 0 0, .int 0 0, .int 3 0, .ref 331, .bool true, .int 181 0, .ref 332, .none, .none, .none, .ref 333, .int 633 0, .int 218 0,hS "/claim/cut.py" 634]})::
 (nat_lit 335,hF "law" (top 54) (hS "law_cellpatches_k51_whole_melting" 583) 334)::[]
def n0:List Nat:=[2,3,15,22,23,24,25,28,35,36,37,40,47,48,49,52,59,60,61,64,71,72,73,76,78,79,81,82,83,85,86,88,89,90,93,94,95,98,99,100,102,103,105,106,107,109,110,112,113,114,116,117,119,120,121,123,124,126,127,128,131,132,133,135,136,138,139,140,142,143,145,146,147,149,150,152,153,154,156,157,159,160,161,163,164,166,167,168,171,172,173,175,176,178,179,180,183,184,185,188,189,190,192,193,195,196,197,199,200,202,203,204,206,207,209,210,211,213,214,216,217,218,220,221,223,224,225,227,228,230,231,232,234,235,237,238,239,241,242,244,245,246,248,249,251,252,253,255,256,258,259,260,262,263,265,266,267,270,271,272,274,275,277,278,279,281,282,284,285,286,288,289,291,292,293,295,296,298,299,300,302,303,305,306,307,309,310,312,313,314,317,318,331,334,335]
def wd:Program:={PySem.Challenge.pw_cellpatches_k51_whole_melting with main:={PySem.Challenge.pw_cellpatches_k51_whole_melting.main with body:=[top 1,top 2,top 3,top 4,top 5,top 7,top 8,top 9,top 10,top 11,top 12,top 13,top 14,top 15,top 16,top 17,top 18,top 19,top 20,top 21,top 22,top 23,top 24,top 25,top 26,top 28,top 29,top 30,top 31,top 32,top 33,top 35,top 36,top 37,top 38,top 40,top 41,top 42,top 43,top 44,top 45,top 46,top 47,top 49,top 50,top 51,top 52,top 53,top 54]} }
open PySem.W PyProof.Rows in
set_option maxHeartbeats 0 in
theorem JL:LeftO PySem.Challenge.rw_cellpatches_k51_whole_melting.row.prog wd [] (fun s=>xlAt wd [] s&&recOk PySem.Challenge.rw_cellpatches_k51_whole_melting.row.records s) (kHook n4 n0 (fun _=>by kernel_rfl)).obs (kHook n4 n0 (fun _=>by kernel_rfl)).val 4796:=fun w=>by kernel_rfl
end K1
namespace L2
open PySem PySem.Spec PyProof.Rows
abbrev Key:=Sum Int Str
def og:Key→Value→Bool
 | .inl k,v=>Value.isInt k v
 | .inr x,v=>Value.isStrOf x v
def J_(w:World):Key→Int
 | .inl k=>hashInt k
 | .inr x=>hashStr w x
theorem bJ:∀{k:Key}{v:Value},og k v=true→(∃i t,k=Sum.inl i∧v=Value.int i t)∨(∃x t,k=Sum.inr x∧v=Value.str x t)
 | .inl i,v,h=>by
   obtain⟨t,e⟩:=Value.isInt_shape (k:=i) (v:=v) h
   exact .inl ⟨i,t,rfl,e⟩
 | .inr x,v,h=>by
   obtain⟨t,e⟩:=Value.isStrOf_shape (x:=x) (v:=v) h
   exact .inr ⟨x,t,rfl,e⟩
theorem zU(i:Int)(t:Tok):og (.inl i) (.int i t)=true:=by simp[og,Value.isInt]
theorem zV(x:Str)(t:Tok):og (.inr x) (.str x t)=true:=by simp[og,Value.isStrOf]
theorem Hr(a b:Int):decide ((Sum.inl a:Key)=Sum.inl b)=(a==b):=by
 by_cases e:a=b
 ·subst e;simp
 ·have h:¬(Sum.inl a:Key)=Sum.inl b:=fun q=>e (Sum.inl.inj q)
  rw[decide_eq_false h]
  exact(beq_eq_false_iff_ne.mpr e).symm
theorem Hu(a b:Str):decide ((Sum.inr a:Key)=Sum.inr b)=decide (a=b):=by
 by_cases e:a=b
 ·subst e;simp
 ·have h:¬(Sum.inr a:Key)=Sum.inr b:=fun q=>e (Sum.inr.inj q)
  rw[decide_eq_false h,decide_eq_false e]
theorem Hs(a:Int)(b:Str):decide ((Sum.inl a:Key)=Sum.inr b)=false:=decide_eq_false (fun q=>nomatch q)
theorem Ht(a:Str)(b:Int):decide ((Sum.inr a:Key)=Sum.inl b)=false:=decide_eq_false (fun q=>nomatch q)
def aX(prog:Program)(w:World):PySem.KeyKind prog w Key where
 is:=og
 hash:=J_ w
 inj:=fun v a b ha hb=>by
  rcases bJ ha with⟨i,t,rfl,rfl⟩ | ⟨x,t,rfl,rfl⟩
  ·rcases bJ hb with⟨j,u,rfl,e⟩ | ⟨y,u,rfl,e⟩
   ·injection e with e1 _;rw[e1]
   ·exact nomatch e
  ·rcases bJ hb with⟨j,u,rfl,e⟩ | ⟨y,u,rfl,e⟩
   ·exact nomatch e
   ·injection e with e1 _;rw[e1]
 byValue:=fun k v h=>by
  rcases bJ h with⟨i,t,rfl,rfl⟩ | ⟨x,t,rfl,rfl⟩<;>rfl
 pyHash:=fun hv h=>by
  rcases bJ hv with⟨i,t,rfl,rfl⟩ | ⟨x,t,rfl,rfl⟩
  ·exact wpAny_pyHash_int h
  ·exact wpAny_pyHash_str h
 eqBool:=fun hu hv h=>by
  rcases bJ hu with⟨i,t,rfl,rfl⟩ | ⟨x,t,rfl,rfl⟩
  ·rcases bJ hv with⟨j,u,rfl,rfl⟩ | ⟨y,u,rfl,rfl⟩
   ·rw[Hr] at h;exact wpAny_eqBool_int h
   ·rw[Hs] at h;exact SeqAt.EqAt.int_str i t y u _ _ _ _ h
  ·rcases bJ hv with⟨j,u,rfl,rfl⟩ | ⟨y,u,rfl,rfl⟩
   ·rw[Ht] at h;exact SeqAt.EqAt.str_int x t j u _ _ _ _ h
   ·rw[Hu] at h;exact wpAny_eqBool_str h
 «strs» :=fun k x t v h=>by
  rcases bJ h with⟨i,u,rfl,e⟩ | ⟨y,u,rfl,e⟩
  ·exact nomatch e
  ·injection e with e1 _
   subst e1
   cases v<;>rfl
theorem vj(prog:Program)(w:World)(i:Int)(t:Tok):(aX prog w).is (.inl i) (.int i t)=true:=zU i t
theorem vk(prog:Program)(w:World)(x:Str)(t:Tok):(aX prog w).is (.inr x) (.str x t)=true:=zV x t
inductive V where
 |non | bl (b:Bool) | int (i:Int) | str (x:Str) | byt (b:Array UInt8) | flt (b:UInt64) | ref (a:Addr) | ty (n:String)
 deriving DecidableEq
def RelV:V→Value→Prop
 | .non,u=>u=Value.none
 | .bl b,u=>u=Value.bool b
 | .int i,u=>∃t,u=Value.int i t
 | .str x,u=>∃t,u=Value.str x t
 | .byt b,u=>∃t,u=Value.bytes b t
 | .flt b,u=>∃t,u=Value.float b t
 | .ref a,u=>u=Value.ref a
 | .ty n,u=>u=Value.type n
abbrev Vals:List V→List Value→Prop:=Paired RelV
theorem Vals.length{xs:List V}{us:List Value}(r:Vals xs us):xs.length=us.length:=Paired.length r
theorem Vals.get:∀{xs:List V}{us:List Value}{i:Nat}{x:V},Vals xs us→xs[i]? =some x→∃u,us[i]? =some u∧RelV x u
 |_,_,_,_, .nil,e=>by simp at e
 |_,_,0,_, .cons r _,e=>by simp at e;subst e;exact⟨_,rfl,r⟩
 |_,_,i+1,x, .cons _ t,e=>by
  obtain⟨u,h1,h2⟩:=Vals.get (i:=i) (x:=x) t (by simpa using e)
  exact⟨u,by simpa using h1,h2⟩
theorem Vals.append:∀{xs ys:List V}{us ws:List Value},Vals xs us→Vals ys ws→Vals (xs++ys) (us++ws)
 |_,_,_,_, .nil,s=>s
 |_,_,_,_, .cons r t,s=> .cons r (Vals.append t s)
theorem Vals.take:∀{xs:List V}{us:List Value}(n:Nat),Vals xs us→Vals (xs.take n) (us.take n)
 |_,_,0,_=> .nil
 |_,_,_+1, .nil=> .nil
 |_,_,n+1, .cons r t=> .cons r (Vals.take n t)
theorem Vals.drop:∀{xs:List V}{us:List Value}(n:Nat),Vals xs us→Vals (xs.drop n) (us.drop n)
 |_,_,0,r=>r
 |_,_,_+1, .nil=> .nil
 |_,_,n+1, .cons _ t=>Vals.drop n t
def RelO:Option V→Option Value→Prop
 |some v,some u=>RelV v u
 |none,none=>True
 |_,_=>False
def KV{κ:Type}:List (κ×V)→List (κ×Value)→Prop:=Paired fun(p:κ×V) (q:κ×Value)=>p.1=q.1∧RelV p.2 q.2
def kV:Key→V
 | .inl i=> .int i
 | .inr x=> .str x
inductive HO where
 |lst (xs:List V)
 |tup (xs:List V)
 |dK (aw:List (Key×V)) | dT (aw:List (List Key×V))
 |set (S:Int→Bool) (n:Nat)
 |ins (C dx:Addr) (fs:List (Str×V))
 |own (x:Addr)
 |xd (fs:List (Str×V))
 |met (f x:Addr)
 |rng (lo hi:Int)
 |frz (o:Obj) (u:HO)
 |tbl (ps:Array Value)
 |ext (φ:Heap→Prop)
abbrev Hp:=Addr→Option HO
def upd(H:Hp)(a:Addr)(o:HO):Hp:=fun b=>if b=a then some o else H b
theorem aE{H:Hp}{a:Addr}{o:HO}:upd H a o a=some o:=by unfold upd;rw[if_pos rfl]
theorem ax{H:Hp}{a b:Addr}{o:HO}(h:b≠a):upd H a o b=H b:=by unfold upd;rw[if_neg h]
theorem B5{H:Hp}{a b:Addr}{o u:HO}(h:H a=some o)(h':H b=some u)(d:o≠u):a≠b:=by
 intro e;subst e;rw[h] at h';exact d (Option.some.inj h')
theorem a8{H:Hp}{a b:Addr}{o:HO}(h:H a=some o)(h':H b=none):a≠b:=by
 intro e;subst e;rw[h] at h';cases h'
section
variable(P:Program)(w:World)
def ObjOk(H:Hp)(h:Heap)(a:Addr):HO→Prop
 | .lst xs=>xs.length≤sizeLine∧∃(aB:List Value) (n:Nat),Vals xs aB∧h.get? a=some {cls:= .type "list",data:= .seq aB.toArray n}
 | .tup xs=>xs.length≤sizeLine∧∃aB:List Value,Vals xs aB∧IsTup h a aB.toArray
 | .dK aw=>aw.length≤sizeLine∧(a==sysModules)=false∧∃vs,KV aw vs∧h.DictOf (aX P w) a vs
 | .dT aw=>aw.length≤sizeLine∧(a==sysModules)=false∧∃xs:List (List Key×Addr×Value),
    Paired (fun (p:List Key×V) (q:List Key×Addr×Value)=>p.1=q.1∧H q.2.1=some (.tup (p.1.map kV))∧RelV p.2 q.2.2) aw xs∧
    ∃o es ep,h.get? a=some o∧o.ExactDict∧o.data= .dict es ep∧es.toList=xs.map (entryOfKey (tupleKind (aX P w)))∧(xs.map (·.1)).Nodup
 | .set S n=>h.SetOf (intKind P w) a S n
 | .ins C dx fs=>H dx=some (.own a)∧fs.length≤1000∧dx≠a∧h.get? a=some (PySem.W.instObj C dx)∧
    ∃mA,h.Ns1 dx mA∧(∀f,RelO (fs.lookup f) (mA f))∧PySem.Within mA (fs.map (·.1))
 | .own _=>∃o,h.get? a=some o
 | .xd fs=>∃mA,h.Ns1 a mA∧∀f,RelO (fs.lookup f) (mA f)
 | .rng lo hi=>∃t u v,h.get? a=some {cls:= .type "range",data:= .fields #[.int lo t, .int hi u, .int 1 v]}
 | .frz o u=>h.get? a=some o∧ObjOk H h a u
 | .tbl ps=>h.get? a=some {cls:= .none,data:= .fields ps}
 | .met f x=>h.get? a=some (PySem.W.methodObj (.ref f) (.ref x))
 | .ext φ=>φ h∧(∃o,h.get? a=some o)∧∀h1 h2:Heap,φ h1→(∀o,h1.get? a=some o→h2.get? a=some o)→φ h2
def HOk(H:Hp)(h:Heap):Prop:=∀a o,H a=some o→ObjOk P w H h a o
end
section
variable{P:Program}{w:World}{H H':Hp}{h h':Heap}{a:Addr}{o:HO}
theorem ObjOk.lt(x:ObjOk P w H h a o):a<h.objs.size:=by
 cases o with
 |lst xs=>obtain⟨_,_,_,_,e⟩:=x;exact Heap.lt_size e
 |tup xs=>obtain⟨_,_,_,p⟩:=x;exact p.lt
 |dK aw=>obtain⟨_,_,_,_,o,_,_,e,_⟩:=x;exact Heap.lt_size e
 |dT aw=>obtain⟨_,_,_,_,o,_,_,e,_⟩:=x;exact Heap.lt_size e
 |set S n=>obtain⟨o,_,_,_,e,_⟩:=x;exact Heap.lt_size e
 |ins C dx fs=>obtain⟨_,_,_,e,_⟩:=x;exact Heap.lt_size e
 |own y=>obtain⟨_,e⟩:=x;exact Heap.lt_size e
 |xd fs=>obtain⟨_,⟨_,_,_,e,_⟩,_⟩:=x;exact Heap.lt_size e
 |rng lo hi=>obtain⟨_,_,_,e⟩:=x;exact Heap.lt_size e
 |frz ob u=>obtain⟨e,_⟩:=x;exact Heap.lt_size e
 |tbl ps=>exact Heap.lt_size (show h.get? a=some _ from x)
 |met f y=>exact Heap.lt_size (show h.get? a=some _ from x)
 |ext φ=>obtain⟨_,⟨_,e⟩,_⟩:=x;exact Heap.lt_size e
theorem Paired.mapP{α β:Type}{F G:α→β→Prop}:∀{l₁:List α}{l₂:List β},Paired F l₁ l₂→(∀a b,F a b→G a b)→Paired G l₁ l₂
 |_,_, .nil,_=> .nil
 |_,_, .cons r t,f=> .cons (f _ _ r) (Paired.mapP t f)
theorem ObjOk.stay(x:ObjOk P w H h a o)(k:∀b u,(b=a∨H b=some (.own a))→h.get? b=some u→h'.get? b=some u)
 (ho:∀b,H b=some (.own a)→H' b=some (.own a))(ht:∀b xs,H b=some (.tup xs)→H' b=some (.tup xs)):ObjOk P w H' h' a o:=by
 induction o with
 |lst xs=>obtain⟨z,aB,n,r,e⟩:=x;exact⟨z,aB,n,r,k _ _ (.inl rfl) e⟩
 |tup xs=>obtain⟨z,aB,r,ob,e,c⟩:=x;exact⟨z,aB,r,ob,k _ _ (.inl rfl) e,c⟩
 |dK aw=>obtain⟨z,y,vs,r,ob,es,ep,e,c⟩:=x;exact⟨z,y,vs,r,ob,es,ep,k _ _ (.inl rfl) e,c⟩
 |dT aw=>
  obtain⟨z,y,xs,r,ob,es,ep,e,c⟩:=x
  exact⟨z,y,xs,Paired.mapP r fun p q z=>⟨z.1,ht _ _ z.2.1,z.2.2⟩,ob,es,ep,k _ _ (.inl rfl) e,c⟩
 |set S n=>obtain⟨ob,es,ep,t,e,c⟩:=x;exact⟨ob,es,ep,t,k _ _ (.inl rfl) e,c⟩
 |ins C dx fs=>
  obtain⟨d,z,ne,e,mA,⟨od,es,ep,e2,c⟩,r⟩:=x
  exact⟨ho _ d,z,ne,k _ _ (.inl rfl) e,mA,⟨od,es,ep,k _ _ (.inr d) e2,c⟩,r⟩
 |own y=>obtain⟨ob,e⟩:=x;exact⟨ob,k _ _ (.inl rfl) e⟩
 |xd fs=>obtain⟨mA,⟨od,es,ep,e,c⟩,r⟩:=x;exact⟨mA,⟨od,es,ep,k _ _ (.inl rfl) e,c⟩,r⟩
 |rng lo hi=>obtain⟨t,u,v,e⟩:=x;exact⟨t,u,v,k _ _ (.inl rfl) e⟩
 |frz ob u ih=>obtain⟨e,q⟩:=x;exact⟨k _ _ (.inl rfl) e,ih q⟩
 |tbl ps=>
  have e:h.get? a=some {cls:= .none,data:= .fields ps}:=x
  show h'.get? a=some {cls:= .none,data:= .fields ps}
  exact k a _ (.inl rfl) e
 |met f y=>
  have e:h.get? a=some (PySem.W.methodObj (.ref f) (.ref y)):=x
  show h'.get? a=some (PySem.W.methodObj (.ref f) (.ref y))
  exact k a _ (.inl rfl) e
 |ext φ=>obtain⟨p,⟨o,e⟩,st⟩:=x;exact⟨st _ _ p fun o q=>k _ _ (.inl rfl) q,⟨o,k _ _ (.inl rfl) e⟩,st⟩
theorem HOk.lt(x:HOk P w H h)(e:H a=some o):a<h.objs.size:=(x a o e).lt
theorem HOk.fresh(x:HOk P w H h)(e:h.objs.size≤a):H a=none:=by
 cases q:H a with
 |none=>rfl
 |some u=>exact absurd (Nat.lt_of_lt_of_le (x.lt q) e) (Nat.lt_irrefl _)
theorem HOk.kept(x:HOk P w H h)(k:∀b u,h.get? b=some u→h'.get? b=some u):HOk P w H h':=fun a o e=>
 (x a o e).stay (fun b u _ q=>k b u q) (fun _ q=>q) fun _ _ q=>q
theorem HOk.laid(x:HOk P w H h)(k:∀b u,h.get? b=some u→h'.get? b=some u)(hp:h.objs.size≤a)(new:ObjOk P w (upd H a o) h' a o):HOk P w (upd H a o) h':=fun b u e=>by
 have hn:=x.fresh hp
 by_cases hb:b=a
 ·subst hb;rw[aE] at e;cases e;exact new
 ·rw[ax hb] at e
  exact(x b u e).stay (fun c v _ q=>k c v q) (fun c q=>by rw[ax (a8 q hn)];exact q) fun c xs q=>by rw[ax (a8 q hn)];exact q
end
def Rd(H:Hp)(a:Addr)(u:HO):Prop:=H a=some u∨∃o,H a=some (.frz o u)
theorem Rd.ok{P:Program}{w:World}{H:Hp}{h:Heap}{a:Addr}{u:HO}(r:Rd H a u)(x:HOk P w H h):ObjOk P w H h a u:=by
 rcases r with r | ⟨o,r⟩
 ·exact x a u r
 ·obtain⟨_,q⟩:=x a _ r
  exact q
def I8:Option HO→Prop
 |some (.lst _)=>True
 |some (.dK _)=>True
 |some (.dT _)=>True
 |some (.set _ _)=>True
 |some (.ins _ _ _)=>True
 |some (.ext _)=>True
 |_=>False
section
variable{P:Program}{w:World}{H:Hp}{h h':Heap}{x e:Addr}{o':HO}
theorem HOk.write(ok:HOk P w H h)(mu:I8 (H x))(he:e=x∨H e=some (.own x))(k:∀b u,b≠e→h.get? b=some u→h'.get? b=some u)(AQ:∃u,h'.get? e=some u)
 (new:ObjOk P w (upd H x o') h' x o'):HOk P w (upd H x o') h':=fun b u q=>by
 have Kf:∀c y,H c=some (.own y)→c≠x:=fun c y r z=>by subst z;rw[r] at mu;exact mu
 have M_:∀c xs,H c=some (.tup xs)→c≠x:=fun c xs r z=>by subst z;rw[r] at mu;exact mu
 by_cases hb:b=x
 ·subst hb;rw[aE] at q;cases q;exact new
 ·rw[ax hb] at q
  by_cases G1:b=e
  ·have q':H b=some (.own x):=by
    rcases he with z | z
    ·exact absurd (G1.trans z) hb
    ·rw[G1];exact z
   rw[q] at q';cases q'
   obtain⟨v,hv⟩:=AQ
   exact⟨v,by rw[G1];exact hv⟩
  ·refine(ok b u q).stay (fun c v hc r=>k c v ?_ r) (fun c r=>by rw[ax (Kf c b r)];exact r) fun c xs r=>by rw[ax (M_ c xs r)];exact r
   rcases hc with rfl | hc
   ·exact G1
   ·rintro rfl
    rcases he with z | z
    ·exact Kf c b hc z
    ·rw[hc] at z;cases z;exact hb rfl
end
structure Un (fs ex:List Addr) (H H':Hp) (h h':Heap):Prop where
 keep:∀b o,h.get? b=some o→H b=none→b∉fs→b∉ex→h'.get? b=some o
 slot:∀b o,h.get? b=some o→H b=none→b∈fs→b∉ex→∃sl,h'.get? b=some {o with slots:=sl}
 free:∀b o,h.get? b=some o→H b=none→b∉ex→H' b=none
 there:∀b o,h.get? b=some o→b∉ex→∃o',h'.get? b=some o'
 tups:∀b xs,H b=some (.tup xs)→H' b=some (.tup xs)
 frzs:∀b o u,H b=some (.frz o u)→H' b=some (.frz o u)
 tbls:∀b ps,H b=some (.tbl ps)→∃more,H' b=some (.tbl (ps++more))
section
variable{fs L4 ex wY:List Addr}{H H1 H2:Hp}{h h1 h2 h':Heap}{a x e:Addr}{o:HO}
theorem Un.any(u:Un fs ex H H1 h h1){b:Addr}{ob:Obj}(q:h.get? b=some ob)(n:H b=none)(hx:b∉ex):∃sl,h1.get? b=some {ob with slots:=sl}:=by
 by_cases hb:b∈fs
 ·exact u.slot b ob q n hb hx
 ·exact⟨ob.slots,u.keep b ob q n hb hx⟩
theorem Un.trans(a:Un fs ex H H1 h h1)(b:Un fs ex H1 H2 h1 h2):Un fs ex H H2 h h2 where
 keep:=fun c ob q n hc hx=>b.keep c ob (a.keep c ob q n hc hx) (a.free c ob q n hx) hc hx
 slot:=fun c ob q n hc hx=>by
  obtain⟨sl,e1⟩:=a.slot c ob q n hc hx
  obtain⟨Io,e2⟩:=b.slot c _ e1 (a.free c ob q n hx) hc hx
  exact⟨Io,e2⟩
 free:=fun c ob q n hx=>by
  obtain⟨o',e1⟩:=a.there c ob q hx
  exact b.free c o' e1 (a.free c ob q n hx) hx
 there:=fun c ob q hx=>by
  obtain⟨o',e1⟩:=a.there c ob q hx
  exact b.there c o' e1 hx
 tups:=fun c xs q=>b.tups c xs (a.tups c xs q)
 frzs:=fun c ob xs q=>b.frzs c ob xs (a.frzs c ob xs q)
 tbls:=fun c ps q=>by
  obtain⟨m1,e1⟩:=a.tbls c ps q
  obtain⟨m2,e2⟩:=b.tbls c _ e1
  exact⟨m1++m2,by rw[e2,Array.append_assoc]⟩
theorem Un.kept(k:∀b u,h.get? b=some u→h'.get? b=some u):Un fs ex H H h h':=
 ⟨fun b ob q _ _ _=>k b ob q,fun b ob q _ _ _=>⟨ob.slots,k b ob q⟩,fun _ _ _ n _=>n,fun b ob q _=>⟨ob,k b ob q⟩,fun _ _ q=>q,fun _ _ _ q=>q,fun _ ps q=>⟨#[],by rw[q];simp⟩⟩
theorem Un.refl:Un fs ex H H h h:=Un.kept fun _ _ q=>q
theorem Un.laid(k:∀b u,h.get? b=some u→h'.get? b=some u)(hp:h.objs.size≤a)(hn:H a=none):Un fs ex H (upd H a o) h h' where
 keep:=fun b u q _ _ _=>k b u q
 slot:=fun b u q _ _ _=>⟨u.slots,k b u q⟩
 free:=fun b u q n _=>by rw[ax (Nat.ne_of_lt (Nat.lt_of_lt_of_le (Heap.lt_size q) hp))];exact n
 there:=fun b u q _=>⟨u,k b u q⟩
 tups:=fun b xs q=>by rw[ax (a8 q hn)];exact q
 frzs:=fun b u xs q=>by rw[ax (a8 q hn)];exact q
 tbls:=fun b ps q=>⟨#[],by rw[ax (a8 q hn),q];simp⟩
theorem Un.write(mu:I8 (H x))(he:e=x∨H e=some (.own x))(k:∀b u,b≠e→h.get? b=some u→h'.get? b=some u)(AQ:∃u,h'.get? e=some u):Un fs ex H (upd H x o) h h':=by
 have hx:∀b,H b=none→b≠x:=fun b n z=>by subst z;rw[n] at mu;exact mu
 have hb:∀b,H b=none→b≠e:=fun b n z=>by
  subst z
  rcases he with r | r
  ·exact hx b n r
  ·rw[n] at r;cases r
 have hm:∀b u,H b=some u→¬I8 (some u)→b≠x:=fun b u q nm z=>by subst z;rw[q] at mu;exact nm mu
 refine⟨fun b u q n _ _=>k b u (hb b n) q,fun b u q n _ _=>⟨u.slots,k b u (hb b n) q⟩,fun b u q n _=>by rw[ax (hx b n)];exact n,fun b u q _=>?_,
  fun b xs q=>by rw[ax (hm b _ q fun z=>z)];exact q,fun b u xs q=>by rw[ax (hm b _ q fun z=>z)];exact q,fun b ps q=>⟨#[],by rw[ax (hm b _ q fun z=>z),q];simp⟩⟩
 by_cases G1:b=e
 ·subst G1;exact AQ
 ·exact⟨u,k b u G1 q⟩
theorem Un.mono(u:Un fs ex H H1 h h1)(hs:∀b∈fs,b∈L4)(hx:∀b∈ex,b∈wY):Un L4 wY H H1 h h1:=
 ⟨fun b ob q n hb he=>u.keep b ob q n (fun z=>hb (hs b z)) fun z=>he (hx b z),fun _ _ q n _ he=>u.any q n fun z=>he (hx _ z),fun b ob q n he=>u.free b ob q n fun z=>he (hx b z),fun b ob q he=>u.there b ob q fun z=>he (hx b z),u.tups,u.frzs,u.tbls⟩
end
def LN(h:Heap)(H:Hp):List Addr:=(List.range h.objs.size).filter fun a=>(H a).isSome
def sy(h:Heap)(H:Hp):Heap:=PySem.W.hideAll h (LN h H)
theorem zL(h:Heap)(H:Hp):(sy h H).objs.size=h.objs.size:=PySem.W.hideAll_size _ _
theorem BA{h:Heap}{H:Hp}{b:Addr}{o:Obj}(e:h.get? b=some o)(n:H b=none):(sy h H).get? b=some o:=
 PySem.W.hideAll_get _ e fun hm=>by
  have q:(H b).isSome=true:=(List.mem_filter.mp hm).2
  rw[n] at q;simp at q
theorem ED{h:Heap}{H:Hp}{b:Addr}{o:Obj}(e:(sy h H).get? b=some o):h.get? b=some o∧H b=none:=by
 have e':h.get? b=some o:=PySem.W.of_hideAll (LN h H) e
 refine⟨e',?_⟩
 cases q:H b with
 |none=>rfl
 |some x=>
  have hm:b∈LN h H:=List.mem_filter.mpr ⟨List.mem_range.mpr (Heap.lt_size e'),by simp[q]⟩
  have z:(sy h H).get? b=none:=PySem.W.hideAll_none (LN h H) hm
  rw[z] at e;cases e
def DM(g h:Heap)(L:Addr):List (Addr×Obj):=(List.range h.objs.size).filterMap fun a=>if a=L∨(g.get? a).isSome=true then none else(h.get? a).map fun o=>(a,o)
def rest(g h:Heap)(L d:Addr):List (Addr×Obj):=(DM g h L).filter fun p=>decide (p.1≠d)
structure Mod (K:W.Frag) (mg:Str→Option Value) (base:Heap):Prop where
 kin:K.In base
 glob:base.Ns mainGlobals mg
 blt:∃mb,base.Ns builtinsNs mb∧∀x:Str,x≠"__name__"→mb x=bootBuiltins x
 nolimit:base.NoLimit
structure Cx where
 prog:Program
 w:World
 K:W.Frag
 mg:Str→Option Value
 base:Heap
 A:Around
 N:List Str
 s₀:Shared
 H₀:Hp
 env:Env
 outer:List Env
 stack:List Env
 ex:List Addr
 fn:Str→Bool
 calm:Bool
 pn:List (Addr×Obj)
 xe:Value→Shared→Prop
def nr(l:List Env):List Addr:=l.filterMap (·.frame)
abbrev Cx.fs(X:Cx):List Addr:=nr X.outer
def LZ(sc:Scope)(x:Str):Prop:=sc.names.lookup x=some .local∨sc.names.lookup x=some .cell∨sc.names.lookup x=some .free
def Loc(sc:Scope)(x:Str):Prop:=sc.names.lookup x=some .local∨sc.names.lookup x=some .cell
def Look(env:Env)(h:Heap)(m:Str→Option Value)(x:Str)(u:Value):Prop:=
 (env.kindOf x=some .local∧m x=some u)∨((env.kindOf x=some .cell∨env.kindOf x=some .free)∧∃c,env.cells.lookup x=some c∧h.IsCell c (some u))
structure Cx.Ok (X:Cx):Prop where
 mod:Mod X.K X.mg X.base
 kind:X.env.scope.kind= .function
 glob:X.env.globals=mainGlobals
 blt:X.env.builtins=builtinsNs
 above:X.s₀.heap.objs.size≤X.env.locals
 inj:∀x y c,X.env.cells.lookup x=some c→X.env.cells.lookup y=some c→x=y
 has:∀x,(X.env.kindOf x=some .cell∨X.env.kindOf x=some .free)→∃c,X.env.cells.lookup x=some c
 cab:∀x c,X.fn x=true→X.env.cells.lookup x=some c→X.s₀.heap.objs.size≤c
 hd:X.calm=true→X.A.handled=none
 frames:X.A.frames=some X.stack
 stk:X.stack=X.outer∨(X.stack=X.env::X.outer∧X.env.frame=some X.env.locals)
 exf:∀b∈X.ex,b≠X.env.locals∧∀x c,X.env.cells.lookup x=some c→c≠b
 bs:∀b o,X.base.get? b=some o→X.s₀.heap.get? b=some o∧X.H₀ b=none
 bsz:X.base.objs.size≤X.s₀.heap.objs.size
 noex:∀b o,X.base.get? b=some o→b∉X.ex
 exfs:∀b∈X.ex,b∉X.fs
 funs:X.s₀.heap.FunFrames X.base X.outer
 frf:∀b∈X.fs,X.H₀ b=none
structure Inv (X:Cx) (pins:List (Addr×Obj)) (σ:List (Option V)) (H:Hp) (s:Shared):Prop where
 ok:X.Ok
 os:s.os=X.s₀.os
 bare:AllBare s.gens
 base:Un X.fs X.ex X.H₀ H X.s₀.heap s.heap
 loc:∃m,s.heap.Ns X.env.locals m∧∀(i:Nat) (x:Str) (v:V),X.N[i]? =some x→σ[i]? =some (some v)→LZ X.env.scope x→∃u,RelV v u∧Look X.env s.heap m x u
 cell:∀x c,X.env.cells.lookup x=some c→∃v,s.heap.IsCell c v
 free:H X.env.locals=none
 freeC:∀x c,X.env.cells.lookup x=some c→H c=none
 pin:∀p∈X.pn++pins,s.heap.get? p.1=some p.2∧H p.1=none∧p.1≠X.env.locals∧p.1∉X.fs∧∀v,p.2.data≠ .cell v
 hok:HOk X.prog X.w H s.heap
 len:σ.length=X.N.length
section
variable{X:Cx}{pins:List (Addr×Obj)}{σ:List (Option V)}{H H':Hp}{s:Shared}{h':Heap}
theorem Cx.Ok.nofr(ok:X.Ok){b:Addr}{o:Obj}(e:X.base.get? b=some o):b∉X.fs:=fun hb=>by
 have:=(ok.funs.mem hb).1
 rw[e] at this;cases this
theorem Inv.bs(I:Inv X pins σ H s):∀b o,X.base.get? b=some o→s.heap.get? b=some o∧H b=none:=fun b o e=>
 ⟨I.base.keep b o (I.ok.bs b o e).1 (I.ok.bs b o e).2 (I.ok.nofr e) (I.ok.noex b o e),I.base.free b o (I.ok.bs b o e).1 (I.ok.bs b o e).2 (I.ok.noex b o e)⟩
theorem Inv.bk(I:Inv X pins σ H s):∀b o,X.base.get? b=some o→s.heap.get? b=some o:=fun b o e=>(I.bs b o e).1
theorem Inv.mod(I:Inv X pins σ H s):Mod X.K X.mg X.base:=I.ok.mod
theorem Inv.kIn(I:Inv X pins σ H s):X.K.In s.heap:=I.ok.mod.kin.keeps I.bk
theorem Inv.nolimit(I:Inv X pins σ H s):s.heap.NoLimit:=I.ok.mod.nolimit.keeps I.bk
theorem Inv.lt(I:Inv X pins σ H s):X.env.locals<s.heap.objs.size:=let ⟨_,hn,_⟩:=I.loc;hn.lt
theorem Inv.sz(I:Inv X pins σ H s):X.s₀.heap.objs.size≤s.heap.objs.size:=Nat.le_trans I.ok.above (Nat.le_of_lt I.lt)
theorem Inv.nofs(I:Inv X pins σ H s){a:Addr}(h:s.heap.objs.size≤a):a∉X.fs:=fun hb=>by
 obtain⟨_,o,ho,_⟩:=I.ok.funs.mem hb
 exact absurd (Nat.lt_of_lt_of_le (Heap.lt_size ho) (Nat.le_trans I.sz h)) (Nat.lt_irrefl _)
theorem Inv.cne(I:Inv X pins σ H s):∀x c,X.env.cells.lookup x=some c→c≠X.env.locals:=fun x c e z=>by
 obtain⟨v,o,ho,hd⟩:=I.cell x c e
 obtain⟨m,⟨o',es,ep,qL,lA,_⟩,_⟩:=I.loc
 rw[z,qL] at ho;cases ho;rw[lA] at hd;cases hd
theorem Inv.funs(I:Inv X pins σ H s):s.heap.FunFrames X.base X.outer:=by
 have all:∀(l:List Env),(∀b∈nr l,b∈X.fs)→X.s₀.heap.FunFrames X.base l→s.heap.FunFrames X.base l:=by
  intro l
  induction l with
  |nil=>intro _ _;trivial
  |cons env r ih=>
   intro hs hl
   obtain⟨hk,⟨L,o,hf,hn,ho,hd⟩,hr⟩:=hl
   have hL:L∈X.fs:=hs L (by unfold nr;rw[List.filterMap_cons,hf];exact List.mem_cons_self)
   obtain⟨sl,e⟩:=I.base.slot L o ho (I.ok.frf L hL) hL fun z=>I.ok.exfs L z hL
   exact⟨hk,⟨L,_,hf,hn,e,hd⟩,ih (fun b hb=>hs b (by unfold nr;rw[List.filterMap_cons,hf];exact List.mem_cons_of_mem _ hb)) hr⟩
 exact all X.outer (fun _ hb=>hb) I.ok.funs
theorem Inv.stack(I:Inv X pins σ H s):s.heap.FunFrames X.base X.stack:=by
 rcases I.ok.stk with e | ⟨e,hf⟩
 ·rw[e];exact I.funs
 ·rw[e]
  obtain⟨m,hn,_⟩:=I.loc
  refine .cons (by rw[I.ok.kind];decide) hf hn ?_ I.funs
  exact Heap.get?_none_of_le (Nat.le_trans I.ok.bsz I.ok.above)
theorem Inv.stkSub(I:Inv X pins σ H s):∀b∈nr X.stack,b∈X.env.locals::X.fs:=fun b hb=>by
 rcases I.ok.stk with e | ⟨e,hf⟩
 ·rw[e] at hb;exact List.mem_cons_of_mem _ hb
 ·rw[e] at hb
  unfold nr at hb
  rw[List.filterMap_cons,hf] at hb
  exact hb
theorem Inv.stkFree(I:Inv X pins σ H s):∀b∈nr X.stack,H b=none:=fun b hb=>by
 rcases List.mem_cons.mp (I.stkSub b hb) with e | hb
 ·rw[e];exact I.free
 ·obtain⟨_,o,ho,_⟩:=I.ok.funs.mem hb
  exact I.base.free b o ho (I.ok.frf b hb) fun z=>I.ok.exfs b z hb
theorem Inv.step{g':Array GenState}{t':Nat}{d':Drawn}{ch:List Addr}(I:Inv X pins σ H s)
 (DH:∀b∈ch,(b∈X.ex∨X.s₀.heap.objs.size≤b)∧b≠X.env.locals∧(∀x c,X.env.cells.lookup x=some c→c≠b)∧∀p∈X.pn++pins,p.1≠b)
 (keep:∀b o,b≠X.env.locals→b∉X.fs→b∉ch→s.heap.get? b=some o→H b=none→h'.get? b=some o)
 (slot:∀b o,b≠X.env.locals→b∈X.fs→b∉ch→s.heap.get? b=some o→H b=none→∃sl,h'.get? b=some {o with slots:=sl})(free:∀b o,b∉ch→s.heap.get? b=some o→H b=none→H' b=none)
 (there:∀b o,b∉ch→s.heap.get? b=some o→∃o',h'.get? b=some o')
 (tups:∀b xs,H b=some (.tup xs)→H' b=some (.tup xs))(frzs:∀b o u,H b=some (.frz o u)→H' b=some (.frz o u))(tbls:∀b ps,H b=some (.tbl ps)→∃more,H' b=some (.tbl (ps++more)))
 (ns:∀m,s.heap.Ns X.env.locals m→h'.Ns X.env.locals m)(hok:HOk X.prog X.w H' h')(hg:AllBare g'):
 Inv X pins σ H' {s with heap:=h',gens:=g',drawn:=d',toks:=t'}:=by
 have OG:∀b o,X.s₀.heap.get? b=some o→b≠X.env.locals:=fun b o e=>Nat.ne_of_lt (Nat.lt_of_lt_of_le (Heap.lt_size e) I.ok.above)
 have LI:∀b o,X.s₀.heap.get? b=some o→b∉X.ex→b∉ch:=fun b o e hx hb=>by
  rcases(DH b hb).1 with z | z
  ·exact hx z
  ·exact absurd (Nat.lt_of_lt_of_le (Heap.lt_size e) z) (Nat.lt_irrefl _)
 have cellK:∀x c,X.env.cells.lookup x=some c→∀v,s.heap.IsCell c v→h'.IsCell c v:=fun x c e v ⟨o,ho,hd⟩=>by
  have Kd:c∉ch:=fun z=>(DH c z).2.2.1 x c e rfl
  by_cases hc:c∈X.fs
  ·obtain⟨sl,q⟩:=slot c o (I.cne x c e) hc Kd ho (I.freeC x c e)
   exact⟨_,q,hd⟩
  ·exact⟨o,keep c o (I.cne x c e) hc Kd ho (I.freeC x c e),hd⟩
 refine⟨I.ok,I.os,hg,⟨fun b o e n hb hx=>?_,fun b o e n hb hx=>?_,fun b o e n hx=>?_,fun b o e hx=>?_,fun b xs e=>tups b xs (I.base.tups b xs e),fun b o xs e=>frzs b o xs (I.base.frzs b o xs e),fun b ps e=>?_⟩,?_,fun x c e=>?_,?_,fun x c e=>?_,fun p hp=>?_,hok,I.len⟩
 ·exact keep b o (OG b o e) hb (LI b o e hx) (I.base.keep b o e n hb hx) (I.base.free b o e n hx)
 ·obtain⟨sl,e1⟩:=I.base.slot b o e n hb hx
  obtain⟨Io,e2⟩:=slot b _ (OG b o e) hb (LI b o e hx) e1 (I.base.free b o e n hx)
  exact⟨Io,e2⟩
 ·obtain⟨o',e1⟩:=I.base.there b o e hx
  exact free b o' (LI b o e hx) e1 (I.base.free b o e n hx)
 ·obtain⟨o',e1⟩:=I.base.there b o e hx
  exact there b o' (LI b o e hx) e1
 ·obtain⟨m1,e1⟩:=I.base.tbls b ps e
  obtain⟨m2,e2⟩:=tbls b _ e1
  exact⟨m1++m2,by rw[e2,Array.append_assoc]⟩
 ·obtain⟨m,hn,hl⟩:=I.loc
  refine⟨m,ns m hn,fun i x v e1 e2 e3=>?_⟩
  obtain⟨u,r,l⟩:=hl i x v e1 e2 e3
  refine⟨u,r,?_⟩
  rcases l with l | ⟨k,c,e,z⟩
  ·exact .inl l
  ·exact .inr ⟨k,c,e,cellK x c e _ z⟩
 ·obtain⟨v,z⟩:=I.cell x c e
  exact⟨v,cellK x c e v z⟩
 ·obtain⟨m,⟨o,_,_,ho,_⟩,_⟩:=I.loc
  exact free _ o (fun z=>(DH _ z).2.1 rfl) ho I.free
 ·obtain⟨v,o,ho,hd⟩:=I.cell x c e
  exact free c o (fun z=>(DH c z).2.2.1 x c e rfl) ho (I.freeC x c e)
 ·obtain⟨e,n,ne,nf,d⟩:=I.pin p hp
  have Kd:p.1∉ch:=fun z=>(DH p.1 z).2.2.2 p hp rfl
  exact⟨keep p.1 p.2 ne nf Kd e n,free p.1 p.2 Kd e n,ne,nf,d⟩
theorem Inv.un{t':Nat}(I:Inv X pins σ H s)(u:Un X.fs [] H H' s.heap h')(hok:HOk X.prog X.w H' h'):Inv X pins σ H' {s with heap:=h',toks:=t'}:=by
 obtain⟨m,⟨o,es,ep,ho,r⟩,_⟩:=id I.loc
 obtain⟨sl,hL⟩:=u.any ho I.free (by simp)
 exact I.step (g':=s.gens) (d':=s.drawn) (ch:=[]) (fun _ z=>nomatch z) (fun b o _ hb _ e n=>u.keep b o e n hb (by simp)) (fun b o _ hb _ e n=>u.slot b o e n hb (by simp)) (fun b o _ e n=>u.free b o e n (by simp)) (fun b o _ e=>u.there b o e (by simp)) u.tups u.frzs u.tbls (fun m' hm=>by
  obtain⟨o',FX,Bh,qL,r'⟩:=hm
  rw[ho] at qL;cases qL
  exact⟨_,FX,Bh,hL,r'⟩) hok I.bare
theorem Inv.call{g':Array GenState}{t':Nat}{d':Drawn}{ch:List Addr}(I:Inv X pins σ H s)(u:Un (nr X.stack) ch H H' s.heap h')(hok:HOk X.prog X.w H' h')(hg:AllBare g')
 (DH:∀b∈ch,(b∈X.ex∨X.s₀.heap.objs.size≤b)∧b≠X.env.locals∧(∀x c,X.env.cells.lookup x=some c→c≠b)∧∀p∈X.pn++pins,p.1≠b):
 Inv X pins σ H' {s with heap:=h',gens:=g',drawn:=d',toks:=t'}:=by
 obtain⟨m,⟨o,es,ep,ho,r⟩,_⟩:=id I.loc
 obtain⟨sl,hL⟩:=u.any ho I.free fun z=>(DH _ z).2.1 rfl
 exact I.step (ch:=ch) DH (fun b o hL hb hc e n=>u.keep b o e n (fun z=>(List.mem_cons.mp (I.stkSub b z)).elim hL hb) hc) (fun b o _ _ hc e n=>u.any e n hc) (fun b o hc e n=>u.free b o e n hc) (fun b o hc e=>u.there b o e hc) u.tups u.frzs u.tbls (fun m' hm=>by
  obtain⟨o',FX,Bh,qL,r'⟩:=hm
  rw[ho] at qL;cases qL
  exact⟨_,FX,Bh,hL,r'⟩) hok hg
theorem Inv.turned{t':Nat}{it:Addr}(I:Inv X pins σ H s)(k:∀b o,b≠it→s.heap.get? b=some o→h'.get? b=some o)(hn:H it=none)(hL:it≠X.env.locals)
 (h1:it∈X.ex∨X.s₀.heap.objs.size≤it)(h2:∀x c,X.env.cells.lookup x=some c→c≠it)(h3:∀p∈X.pn++pins,p.1≠it):Inv X pins σ H {s with heap:=h',toks:=t'}:=by
 have Gn:∀b u,H b=some u→b≠it:=fun b u e z=>by rw[z,hn] at e;cases e
 refine I.step (g':=s.gens) (d':=s.drawn) (ch:=[it]) (fun b hb=>?_) (fun b o _ _ hc e _=>k b o (fun z=>hc (by simp[z])) e) (fun b o _ _ hc e _=>⟨o.slots,k b o (fun z=>hc (by simp[z])) e⟩) (fun _ _ _ _ n=>n)
  (fun b o hc e=>⟨o,k b o (fun z=>hc (by simp[z])) e⟩) (fun _ _ e=>e) (fun _ _ _ e=>e) (fun b ps e=>⟨#[],by rw[e];simp⟩) (fun m hm=>?_) (fun b u e=>?_) I.bare
 ·have e:b=it:=by simpa using hb
  subst e
  exact⟨h1,hL,h2,h3⟩
 ·obtain⟨o,es,ep,ho,r⟩:=hm
  exact⟨o,es,ep,k _ o (Ne.symm hL) ho,r⟩
 ·refine(I.hok b u e).stay (fun c v hc q=>k c v ?_ q) (fun _ q=>q) fun _ _ q=>q
  rcases hc with z | z
  ·rw[z];exact Gn b u e
  ·exact Gn c _ z
theorem Inv.tok(I:Inv X pins σ H s)(t:Nat):Inv X pins σ H {s with toks:=t}:=I.un (h':=s.heap) (t':=t) Un.refl I.hok
theorem Inv.kept{t':Nat}(I:Inv X pins σ H s)(k:∀b u,s.heap.get? b=some u→h'.get? b=some u):Inv X pins σ H {s with heap:=h',toks:=t'}:=I.un (Un.kept k) (I.hok.kept k)
theorem Inv.laid{a:Addr}{o:HO}{t':Nat}(I:Inv X pins σ H s)(k:∀b u,s.heap.get? b=some u→h'.get? b=some u)(hp:s.heap.objs.size≤a)(new:ObjOk X.prog X.w (upd H a o) h' a o):
 Inv X pins σ (upd H a o) {s with heap:=h',toks:=t'}:=I.un (Un.laid k hp (I.hok.fresh hp)) (I.hok.laid k hp new)
theorem Inv.write{x e:Addr}{o:HO}{t':Nat}(I:Inv X pins σ H s)(mu:I8 (H x))(he:e=x∨H e=some (.own x))(k:∀b u,b≠e→s.heap.get? b=some u→h'.get? b=some u)(AQ:∃u,h'.get? e=some u)
 (new:ObjOk X.prog X.w (upd H x o) h' x o):Inv X pins σ (upd H x o) {s with heap:=h',toks:=t'}:=I.un (Un.write mu he k AQ) (I.hok.write mu he k AQ new)
theorem Inv.pins_of{Gr:List (Addr×Obj)}(I:Inv X pins σ H s)(h:∀p∈Gr,s.heap.get? p.1=some p.2∧H p.1=none∧p.1≠X.env.locals∧p.1∉X.fs∧∀v,p.2.data≠ .cell v):Inv X Gr σ H s:=
 ⟨I.ok,I.os,I.bare,I.base,I.loc,I.cell,I.free,I.freeC,fun p hp=>(List.mem_append.mp hp).elim (fun z=>I.pin p (List.mem_append_left _ z)) (h p),I.hok,I.len⟩
theorem vp{N:List Str}(hN:N.Nodup){i j:Nat}{x:Str}(a:N[i]? =some x)(b:N[j]? =some x):i=j:=by
 obtain⟨h1,e1⟩:=List.getElem?_eq_some_iff.mp a
 obtain⟨h2,e2⟩:=List.getElem?_eq_some_iff.mp b
 exact(List.getElem_inj hN).mp (e1.trans e2.symm)
theorem rR{M:Model}{A:Around}{E:Value→Shared→Prop}{i:Nat}{x:Str}{v:V}{u:Value}{Q:Unit→Shared→Prop}(I:Inv X pins σ H s)(hN:X.N.Nodup)(hi:X.N[i]? =some x)(hx:Loc X.env.scope x)(r:RelV v u)
 (h:∀s',Inv X pins (σ.set i (some v)) H s'→(∃a,Heap.SameBut a s.heap s'.heap∧(a=X.env.locals∨X.env.cells.lookup x=some a))→Q () s')(hf:X.fn x=true∨X.env.scope.names.lookup x=some .local:=by first | exact .inl rfl | exact .inr rfl | assumption):wpAny M A (storeName X.env x u) Q E s:=by
 obtain⟨m,hn,hl⟩:=id I.loc
 have Md:(X.env.scope.kind== .class||(X.env.scope.kind== .module&&X.env.locals !=X.env.globals))=false:=by rw[I.ok.kind];rfl
 have Od:i<σ.length:=by rw[I.len];exact(List.getElem?_eq_some_iff.mp hi).1
 have cne:=I.cne
 have tracked:∀{a:Addr}{h':Heap},(∃o,s.heap.get? a=some o∧H a=none)→Heap.SameBut a s.heap h'→HOk X.prog X.w H h':=fun {a h'} ha hs b ob e=>by
  obtain⟨_,_,F_⟩:=ha
  refine(I.hok b ob e).stay (fun c w' hc q=>(hs.2 c ?_).trans q) (fun _ q=>q) fun _ _ q=>q
  rintro rfl
  rcases hc with rfl | hc
  ·rw[F_] at e;cases e
  ·rw[F_] at hc;cases hc
 rcases hx with hk | hk
 ·refine wpAny_storeName_local hk hn (fun h' Qa hs=>?_) Md
  obtain⟨oL,_,_,Lw,_⟩:=id hn
  refine h _ ⟨I.ok,I.os,I.bare,⟨fun b o e n hb hx=>?_,fun b o e n hb hx=>?_,I.base.free,fun b o e hx=>?_,I.base.tups,I.base.frzs,I.base.tbls⟩,⟨_,Qa,fun j y v' e1 e2 e3=>?_⟩,fun y c e=>?_,I.free,I.freeC,fun p hp=>?_,tracked ⟨oL,Lw,I.free⟩ hs,by simpa using I.len⟩ ⟨_,hs, .inl rfl⟩
  ·exact(hs.2 b (Nat.ne_of_lt (Nat.lt_of_lt_of_le (Heap.lt_size e) I.ok.above))).trans (I.base.keep b o e n hb hx)
  ·obtain⟨sl,e1⟩:=I.base.slot b o e n hb hx
   exact⟨sl,(hs.2 b (Nat.ne_of_lt (Nat.lt_of_lt_of_le (Heap.lt_size e) I.ok.above))).trans e1⟩
  ·obtain⟨o',e1⟩:=I.base.there b o e hx
   exact⟨o',(hs.2 b (Nat.ne_of_lt (Nat.lt_of_lt_of_le (Heap.lt_size e) I.ok.above))).trans e1⟩
  ·by_cases hj:j=i
   ·subst hj
    rw[hi] at e1;cases e1
    rw[List.getElem?_set_self Od] at e2
    cases e2
    exact⟨u,r, .inl ⟨hk,by simp⟩⟩
   ·rw[List.getElem?_set_ne (Ne.symm hj)] at e2
    obtain⟨u',r',q⟩:=hl j y v' e1 e2 e3
    refine⟨u',r',?_⟩
    rcases q with⟨k,e⟩ | ⟨k,c,e,z⟩
    ·refine .inl ⟨k,?_⟩
     have:y≠x:=fun e=>hj (vp hN e1 (e▸hi))
     simp[this,e]
    ·exact .inr ⟨k,c,e,z.sameBut hs (cne y c e)⟩
  ·obtain⟨w',z⟩:=I.cell y c e
   exact⟨w',z.sameBut hs (cne y c e)⟩
  ·obtain⟨e,n,ne,nf,d⟩:=I.pin p hp
   exact⟨(hs.2 p.1 ne).trans e,n,ne,nf,d⟩
 ·have Mm:X.fn x=true:=by
   rcases hf with z | z
   ·exact z
   ·rw[z] at hk;cases hk
  obtain⟨c,hc⟩:=I.ok.has x (.inl hk)
  obtain⟨w',z⟩:=I.cell x c hc
  refine wpAny_storeName_cell I.ok.kind hk hc z (fun h' F0 hs=>?_)
  obtain⟨oc,Lx,MC⟩:=id z
  refine h {s with heap:=h'} ⟨I.ok,I.os,I.bare,⟨fun b o e n hb hx=>?_,fun b o e n hb hx=>?_,I.base.free,fun b o e hx=>?_,I.base.tups,I.base.frzs,I.base.tbls⟩,⟨m,hn.sameBut hs (Ne.symm (cne x c hc)),fun j y v' e1 e2 e3=>?_⟩,fun y c' e=>?_,I.free,I.freeC,fun p hp=>?_,tracked ⟨oc,Lx,I.freeC x c hc⟩ hs,by simpa using I.len⟩ ⟨c,hs, .inr hc⟩
  ·exact(hs.2 b (Nat.ne_of_lt (Nat.lt_of_lt_of_le (Heap.lt_size e) (I.ok.cab x c Mm hc)))).trans (I.base.keep b o e n hb hx)
  ·obtain⟨sl,e1⟩:=I.base.slot b o e n hb hx
   exact⟨sl,(hs.2 b (Nat.ne_of_lt (Nat.lt_of_lt_of_le (Heap.lt_size e) (I.ok.cab x c Mm hc)))).trans e1⟩
  ·obtain⟨o',e1⟩:=I.base.there b o e hx
   exact⟨o',(hs.2 b (Nat.ne_of_lt (Nat.lt_of_lt_of_le (Heap.lt_size e) (I.ok.cab x c Mm hc)))).trans e1⟩
  ·by_cases hj:j=i
   ·subst hj
    rw[hi] at e1;cases e1
    rw[List.getElem?_set_self Od] at e2
    cases e2
    exact⟨u,r, .inr ⟨.inl hk,c,hc,F0⟩⟩
   ·rw[List.getElem?_set_ne (Ne.symm hj)] at e2
    obtain⟨u',r',q⟩:=hl j y v' e1 e2 e3
    refine⟨u',r',?_⟩
    rcases q with q | ⟨k,c',e,z'⟩
    ·exact .inl q
    ·refine .inr ⟨k,c',e,z'.sameBut hs ?_⟩
     rintro rfl
     exact hj (vp hN e1 (I.ok.inj _ _ _ e hc▸hi))
  ·by_cases Lo:c'=c
   ·subst Lo;exact⟨_,F0⟩
   ·obtain⟨w2,z2⟩:=I.cell y c' e
    exact⟨w2,z2.sameBut hs Lo⟩
  ·obtain⟨e,n,ne,nf,d⟩:=I.pin p hp
   refine⟨(hs.2 p.1 ?_).trans e,n,ne,nf,d⟩
   intro q
   rw[q,Lx] at e
   have q':oc=p.2:=Option.some.inj e
   exact d w' (by rw[←q'];exact MC)
theorem v8{M:Model}{A:Around}{E:Value→Shared→Prop}{i:Nat}{x:Str}{v:V}{u:Value}{Q:Unit→Shared→Prop}(I:Inv X pins σ H s)(hN:X.N.Nodup)(hi:X.N[i]? =some x)(hx:Loc X.env.scope x)(r:RelV v u)
 (h:∀s',Inv X pins (σ.set i (some v)) H s'→Q () s')(hf:X.fn x=true∨X.env.scope.names.lookup x=some .local:=by first | exact .inl rfl | exact .inr rfl | assumption):wpAny M A (storeName X.env x u) Q E s:=
 rR I hN hi hx r (fun s' I' _=>h s' I') hf
theorem Inv.call'{s':Shared}{ch:List Addr}(I:Inv X pins σ H s)(ho:s'.os=s.os)(u:Un (nr X.stack) ch H H' s.heap s'.heap)(hok:HOk X.prog X.w H' s'.heap)(hg:AllBare s'.gens)
 (DH:∀b∈ch,(b∈X.ex∨X.s₀.heap.objs.size≤b)∧b≠X.env.locals∧(∀x c,X.env.cells.lookup x=some c→c≠b)∧∀p∈X.pn++pins,p.1≠b):Inv X pins σ H' s':=by
 obtain⟨h',g',d',t',o'⟩:=s'
 have e:o'=s.os:=ho
 subst e
 exact I.call (g':=g') (t':=t') (d':=d') u hok hg DH
end
abbrev XK:=Value→Option Addr→Hp→Prop
abbrev St:=List (Option V)
abbrev VK:=V→Hp→Prop
abbrev TE:=St→Hp→VK→Prop
abbrev TT:=St→Hp→(Bool→Hp→Prop)→Prop
abbrev TA:=St→Hp→(List V→Hp→Prop)→Prop
structure Ends where
 nx:St→Hp→Prop
 rt:VK
 bk:St→Hp→Prop:=fun _ _=>False
 ct:St→Hp→Prop:=fun _ _=>False
abbrev TS:=Ends→St→Hp→Prop
def EP(X:Cx)(pins:List (Addr×Obj))(σ:St)(Q:VK)(u:Value)(s':Shared):Prop:=∃v H',Inv X pins σ H' s'∧RelV v u∧Q v H'
def TP(X:Cx)(pins:List (Addr×Obj))(σ:St)(Q:Bool→Hp→Prop)(b:Bool)(s':Shared):Prop:=∃H',Inv X pins σ H' s'∧Q b H'
def AP(X:Cx)(pins:List (Addr×Obj))(σ:St)(Q:List V→Hp→Prop)(us:List Value)(s':Shared):Prop:=∃vs H',Inv X pins σ H' s'∧Vals vs us∧Q vs H'
def SP(X:Cx)(pins:List (Addr×Obj))(D:Ends)(f:Flow)(s':Shared):Prop:=
 match f with
 | .next=>∃σ' H',Inv X pins σ' H' s'∧D.nx σ' H'
 | .brk=>∃σ' H',Inv X pins σ' H' s'∧D.bk σ' H'
 | .cont=>∃σ' H',Inv X pins σ' H' s'∧D.ct σ' H'
 | .ret u=>∃v σ' H',Inv X pins σ' H' s'∧RelV v u∧D.rt v H'
def PE(X:Cx)(e:Expr)(t:TE):Prop:=
 ∀(pins:List (Addr×Obj)) (s:Shared) (σ:St) (H:Hp) (Q:VK),Inv X pins σ H s→t σ H Q→wpAny (model X.prog X.w) X.A (eval e X.env) (EP X pins σ Q) X.xe s
def PT(X:Cx)(e:Expr)(t:TT):Prop:=
 ∀(pins:List (Addr×Obj)) (s:Shared) (σ:St) (H:Hp) (Q:Bool→Hp→Prop),Inv X pins σ H s→t σ H Q→wpAny (model X.prog X.w) X.A (isTrue e X.env (eval e X.env)) (TP X pins σ Q) X.xe s
def PW(X:Cx)(e:Expr)(t:TT):Prop:=
 ∀(whole:Sem Value) (pins:List (Addr×Obj)) (s:Shared) (σ:St) (H:Hp) (Q:Bool→Hp→Prop),Inv X pins σ H s→t σ H Q→wpAny (model X.prog X.w) X.A (isTrue e X.env whole) (TP X pins σ Q) X.xe s
theorem PW.pt{X:Cx}{e:Expr}{t:TT}(h:PW X e t):PT X e t:=h _
def PA(X:Cx)(es:List Expr)(t:TA):Prop:=
 ∀(pos:Pos) (pins:List (Addr×Obj)) (s:Shared) (σ:St) (H:Hp) (Q:List V→Hp→Prop),Inv X pins σ H s→t σ H Q→wpAny (model X.prog X.w) X.A (spliced (backTo pos (starEach es X.env))) (AP X pins σ Q) X.xe s
def PS(X:Cx)(st:Stmt)(t:TS):Prop:=
 ∀(pins:List (Addr×Obj)) (s:Shared) (σ:St) (H:Hp) (D:Ends),Inv X pins σ H s→t D σ H→wpAny (model X.prog X.w) X.A (exec st X.env) (SP X pins D) X.xe s
def PSs(X:Cx)(st:List Stmt)(t:TS):Prop:=
 ∀(pins:List (Addr×Obj)) (s:Shared) (σ:St) (H:Hp) (D:Ends),Inv X pins σ H s→t D σ H→wpAny (model X.prog X.w) X.A (execs st X.env) (SP X pins D) X.xe s
theorem bN{α:Type}{t:Sem α}{Q Q':α→Shared→Prop}{M:Model}{A:Around}{E:Value→Shared→Prop}{s:Shared}(h:wpAny M A t Q E s)(hQ:∀a s,Q a s→Q' a s):wpAny M A t Q' E s:=wpAny_mono h hQ fun _ _ x=>x
section
variable{X:Cx}
theorem bin{a b:Expr}{ta tb:TE}(ha:PE X a ta)(hb:PE X b tb){pins:List (Addr×Obj)}{s:Shared}{σ:St}{H:Hp}{R:V→V→Hp→Prop}(I:Inv X pins σ H s)(h:ta σ H fun x H1=>tb σ H1 fun y H2=>R x y H2)
 {α:Type}{Q:α→Shared→Prop}{f:Value→Value→Sem α}
 (hf:∀v u s2 x y H2,Inv X pins σ H2 s2→RelV x v→RelV y u→R x y H2→wpAny (model X.prog X.w) X.A (f v u) Q X.xe s2):
 wpAny (model X.prog X.w) X.A (eval a X.env) (fun v s₁=>wpAny (model X.prog X.w) X.A (eval b X.env) (fun u s₂=>wpAny (model X.prog X.w) X.A (f v u) Q X.xe s₂) X.xe s₁) X.xe s:=by
 refine bN (ha pins s σ H _ I h) fun v s1 ⟨x,H1,I1,r1,q1⟩=>?_
 refine bN (hb pins s1 σ H1 _ I1 q1) fun u s2 ⟨y,H2,I2,r2,q2⟩=>?_
 exact hf v u s2 x y H2 I2 r1 r2 q2
def pG(i:Nat):TE:=fun σ H Q=>∃v,σ[i]? =some (some v)∧Q v H
def tC(v:V):TE:=fun _ H Q=>Q v H
theorem HX{i:Nat}{x:Str}{pos:Pos}(hN:X.N[i]? =some x)(hv:LZ X.env.scope x)(hd:(x==("__debug__":Str))=false:=by decide)(wC:(x==("__classdict__":Str))=false:=by decide):PE X (.Name x pos) (pG i):=by
 intro pins s σ H Q I h
 obtain⟨v,e,h⟩:=h
 obtain⟨m,hn,hl⟩:=I.loc
 obtain⟨u,r,l⟩:=hl i x v hN e hv
 have fin:EP X pins σ Q u s:=⟨v,H,I,r,h⟩
 rcases l with⟨hk,hm⟩ | ⟨hk,c,hc,F7⟩
 ·exact wpAny_Name (wpAny_loadName_local I.ok.kind hk hn hm fin) hd
 ·rcases hk with hk | hk
  ·exact wpAny_Name (wpAny_loadName_cell I.ok.kind hk hc F7 fin) hd
  ·exact wpAny_Name (wpAny_loadName_free I.ok.kind hk hc F7 fin wC) hd
theorem HP{i j pos}:PE X (.Constant (.int i) j pos) (tC (.int i)):=fun _ _ _ H _ I h=>wpAny_Constant_int ⟨.int i,H,I.tok _,⟨_,rfl⟩,h⟩
theorem Kt{b j pos}:PE X (.Constant (.bool b) j pos) (tC (.bl b)):=fun _ _ _ H _ I h=>Constant_bool ⟨.bl b,H,I,rfl,h⟩
theorem HQ{j pos}:PE X (.Constant .none j pos) (tC .non):=fun _ _ _ H _ I h=>Constant_none ⟨.non,H,I,rfl,h⟩
theorem HU{x j pos}:PE X (.Constant (.str x) j pos) (tC (.str x)):=fun _ _ _ H _ I h=>Calls.Constant_str ⟨.str x,H,I.tok _,⟨_,rfl⟩,h⟩
def Gl(X:Cx)(x:Str):Prop:=X.env.kindOf x=some .globalImplicit
theorem yK{E:Value→Shared→Prop}{pins:List (Addr×Obj)}{s:Shared}{σ:St}{H:Hp}{x:Str}{u:Value}{pos:Pos}{Q:Value→Shared→Prop}(I:Inv X pins σ H s)(hg:Gl X x)(hm:X.mg x=some u)(h:Q u s)
 (hd:(x==("__debug__":Str))=false:=by decide):wpAny (model X.prog X.w) X.A (eval (.Name x pos) X.env) Q E s:=
 Calls.Name_function_global I.ok.kind hg (Calls.loadGlobal_global (by rw[I.ok.glob];exact I.mod.glob.keeps I.bk) hm h) hd
theorem gQ{E:Value→Shared→Prop}{pins:List (Addr×Obj)}{s:Shared}{σ:St}{H:Hp}{x:Str}{u:Value}{pos:Pos}{Q:Value→Shared→Prop}(I:Inv X pins σ H s)(hg:Gl X x)(hm:X.mg x=none)(hv:bootBuiltins x=some u)(h:Q u s)
 (hn:x≠"__name__":=by decide)(hd:(x==("__debug__":Str))=false:=by decide):wpAny (model X.prog X.w) X.A (eval (.Name x pos) X.env) Q E s:=by
 obtain⟨mb,h1,h2⟩:=I.mod.blt
 exact Calls.Name_function_global I.ok.kind hg (Calls.loadGlobal_builtin (by rw[I.ok.glob];exact I.mod.glob.keeps I.bk) hm (by rw[I.ok.blt];exact h1.keeps I.bk) ((h2 x hn).trans hv) h) hd
theorem E6{x:Str}{v:V}{u:Value}{pos:Pos}(hg:Gl X x)(hm:X.mg x=some u)(r:RelV v u)(hd:(x==("__debug__":Str))=false:=by decide):PE X (.Name x pos) (tC v):=
 fun _ _ _ H _ I h=>yK I hg hm ⟨v,H,I,r,h⟩ hd
theorem E0{x:Str}{v:V}{u:Value}{pos:Pos}(hg:Gl X x)(hm:X.mg x=none)(hv:bootBuiltins x=some u)(r:RelV v u)(hn:x≠"__name__":=by decide)(hd:(x==("__debug__":Str))=false:=by decide):PE X (.Name x pos) (tC v):=
 fun _ _ _ H _ I h=>gQ I hg hm hv ⟨v,H,I,r,h⟩ hn hd
variable{a b:Expr}{ta tb:TE}{pos:Pos}
def PC(X:Cx)(op:CmpOp)(a b:Expr)(t:TE):Prop:=
 ∀(pins:List (Addr×Obj)) (s:Shared) (σ:St) (H:Hp) (Q:VK),Inv X pins σ H s→t σ H Q→
  wpAny (model X.prog X.w) X.A (eval a X.env) (fun v s₁=>wpAny (model X.prog X.w) X.A (eval b X.env) (fun u s₂=>wpAny (model X.prog X.w) X.A (compareOp op v u) (EP X pins σ Q) X.xe s₂) X.xe s₁) X.xe s
theorem B7(b:Expr){op:CmpOp}(h:op≠ .In)(h2:op≠ .NotIn):behindInMarks op b=false:=by
 have e1:(op==CmpOp.In)=false:=by cases op<;>first | rfl | exact absurd rfl h
 have e2:(op==CmpOp.NotIn)=false:=by cases op<;>first | rfl | exact absurd rfl h2
 cases b<;>simp[behindInMarks,e1,e2]
theorem HN{op:CmpOp}{t:TE}(h:PC X op a b t)(h1:behindInMarks op b=false:=by first | exact B7 _ (by decide) (by decide) | rfl):PE X (.Compare a [op] [b] pos) t:=fun pins s σ H Q I hw=>wpAny_Compare1 (h pins s σ H Q I hw) h1
variable{tA bS:TT}{rest:List Expr}
def Nl(t u:TT):TT:=fun σ H Q=>t σ H fun c H1=>if c=true then u σ H1 Q else Q false H1
def QU(t u:TT):TT:=fun σ H Q=>t σ H fun c H1=>if c=true then Q true H1 else u σ H1 Q
def Nw(t:TT):TT:=fun σ H Q=>t σ H fun c H1=>Q (!c) H1
theorem Fj(ha:PT X a tA):PW X (.BoolOp .And [a] pos) tA:=by
 intro wh pins s σ H Q I h
 refine isTrue_and (bN (ha pins s σ H Q I h) fun c s1 e=>?_)
 cases c with
 |true=>exact isTrue_and_nil e
 |false=>exact e
theorem Ig(ha:PT X a tA):PW X (.BoolOp .Or [a] pos) tA:=by
 intro wh pins s σ H Q I h
 refine isTrue_or (bN (ha pins s σ H Q I h) fun c s1 e=>?_)
 cases c with
 |false=>exact isTrue_or_nil e
 |true=>exact e
theorem Ie(ha:PT X a tA)(hb:PW X (.BoolOp .And (b::rest) pos) bS):PW X (.BoolOp .And (a::b::rest) pos) (Nl tA bS):=by
 intro wh pins s σ H Q I h
 refine isTrue_and (bN (ha pins s σ H _ I h) fun c s1 ⟨H1,I1,q1⟩=>?_)
 cases c with
 |true=>exact hb wh pins s1 σ H1 Q I1 q1
 |false=>exact⟨H1,I1,q1⟩
theorem KA(ha:PT X a tA)(hb:PW X (.BoolOp .Or (b::rest) pos) bS):PW X (.BoolOp .Or (a::b::rest) pos) (QU tA bS):=by
 intro wh pins s σ H Q I h
 refine isTrue_or (bN (ha pins s σ H _ I h) fun c s1 ⟨H1,I1,q1⟩=>?_)
 cases c with
 |true=>exact⟨H1,I1,q1⟩
 |false=>exact hb wh pins s1 σ H1 Q I1 q1
theorem Ib(ha:PT X a tA):PT X (.UnaryOp .Not a pos) (Nw tA):=by
 intro pins s σ H Q I h
 exact isTrue_not (ha pins s σ H (fun c H1=>Q (!c) H1) I h)
def KZ(ta tb:TE):TE:=fun σ H Q=>ta σ H fun x H1=>∃c,x= .bl c∧if c=true then tb σ H1 Q else Q (.bl false) H1
def K4(ta:TE):TE:=fun σ H Q=>ta σ H fun x H1=>∃c,x= .bl c∧Q (.bl (!c)) H1
theorem HS{op}{t:TE}(h:PE X a t):PE X (.BoolOp op [a] pos) t:=fun pins s σ H Q I hw=>BoolOp_one (h pins s σ H Q I hw)
theorem HM(ha:PE X a ta)(hb:PE X (.BoolOp .And (b::rest) pos) tb):PE X (.BoolOp .And (a::b::rest) pos) (KZ ta tb):=by
 intro pins s σ H Q I h
 refine BoolOp_and (bN (ha pins s σ H _ I h) fun v s1 ⟨x,H1,I1,r1,q1⟩=>?_)
 obtain⟨c,rfl,q1⟩:=q1
 cases r1
 refine wpAny_truthy_bool ?_
 cases c with
 |true=>exact hb pins s1 σ H1 Q I1 q1
 |false=>exact⟨.bl false,H1,I1,rfl,q1⟩
theorem HR(ha:PE X a ta):PE X (.UnaryOp .Not a pos) (K4 ta):=by
 intro pins s σ H Q I h
 refine UnaryOp_ (bN (ha pins s σ H _ I h) fun v s1 ⟨x,H1,I1,r1,q1⟩=>?_)
 obtain⟨c,rfl,q1⟩:=q1
 cases r1
 exact not_of (wpAny_truthy_bool ⟨.bl (!c),H1,I1,rfl,q1⟩)
def QT(t:TT)(ta tb:TE):TE:=fun σ H Q=>t σ H fun c H1=>if c=true then ta σ H1 Q else tb σ H1 Q
theorem CJ{c:Expr}(hc:PT X c tA)(ha:PE X a ta)(hb:PE X b tb):PE X (.IfExp c a b pos) (QT tA ta tb):=by
 intro pins s σ H Q I h
 refine wpAny_IfExp (bN (hc pins s σ H _ I h) fun d s1 ⟨H1,I1,q1⟩=>?_)
 cases d with
 |true=>exact ha pins s1 σ H1 Q I1 q1
 |false=>exact hb pins s1 σ H1 Q I1 q1
end
def SqL(K:W.Frag)(H:Hp)(a:Addr)(xs:List V):Prop:=
 Rd H a (.lst xs)∨
  ∃(o:Obj) (aB:Array Value) (n:Nat),K.lookup a=some o∧o.cls= .type "list"∧o.dict=none∧o.data= .seq aB n∧aB.size≤sizeLine∧Vals xs aB.toList
def SqT(K:W.Frag)(H:Hp)(a:Addr)(xs:List V):Prop:=
 Rd H a (.tup xs)∨
  ∃(o:Obj) (aB:Array Value) (n:Nat),K.lookup a=some o∧o.cls= .type "tuple"∧o.data= .seq aB n∧aB.size≤sizeLine∧Vals xs aB.toList
def L0:Value→Option V
 | .none=>some .non
 | .bool b=>some (.bl b)
 | .int i _=>some (.int i)
 | .str x _=>some (.str x)
 | .bytes b _=>some (.byt b)
 | .float b _=>some (.flt b)
 | .ref a=>some (.ref a)
 | .type n=>some (.ty n)
 |_=>none
theorem RelV.abs{x:V}{u:Value}(r:RelV x u):L0 u=some x:=by
 cases x with
 |non=>cases r;rfl
 |bl _=>cases r;rfl
 |int _=>obtain⟨t,rfl⟩:=r;rfl
 |str _=>obtain⟨t,rfl⟩:=r;rfl
 |byt _=>obtain⟨t,rfl⟩:=r;rfl
 |flt _=>obtain⟨t,rfl⟩:=r;rfl
 |ref _=>cases r;rfl
 |ty _=>cases r;rfl
theorem RelV.inj{x y:V}{u:Value}(r:RelV x u)(q:RelV y u):x=y:=Option.some.inj (r.abs.symm.trans q.abs)
theorem Vals.inj:∀{xs ys:List V}{us:List Value},Vals xs us→Vals ys us→xs=ys
 |_,_,_, .nil, .nil=>rfl
 |_,_,_, .cons r t, .cons r' t'=>by rw[r.inj r',Vals.inj t t']
section
variable{X:Cx}{pins:List (Addr×Obj)}{σ:St}{H:Hp}{s:Shared}{a:Addr}{xs ys:List V}
theorem SqL.of{K:W.Frag}(h:H a=some (.lst xs)):SqL K H a xs:= .inl (.inl h)
theorem SqT.of{K:W.Frag}(h:H a=some (.tup xs)):SqT K H a xs:= .inl (.inl h)
theorem Inv.list(I:Inv X pins σ H s)(h:SqL X.K H a xs):∃aB:List Value,Vals xs aB∧PlainL s.heap a aB.toArray∧xs.length≤sizeLine:=by
 rcases h with h | ⟨o,aB,n,hk,hc,hd,hs,hz,r⟩
 ·obtain⟨z,aB,n,r,e⟩:=h.ok I.hok
  exact⟨aB,r,⟨_,n,e,rfl,rfl,rfl⟩,z⟩
 ·refine⟨aB.toList,r,⟨o,n,I.kIn a o hk,hc,hd,by simpa using hs⟩,?_⟩
  have e:=r.length
  simp only[Array.length_toList] at e
  omega
theorem Inv.tuple(I:Inv X pins σ H s)(h:SqT X.K H a xs):∃aB:List Value,Vals xs aB∧IsTup s.heap a aB.toArray∧xs.length≤sizeLine:=by
 rcases h with h | ⟨o,aB,n,hk,hc,hs,hz,r⟩
 ·obtain⟨z,aB,r,p⟩:=h.ok I.hok
  exact⟨aB,r,p,z⟩
 ·refine⟨aB.toList,r,⟨o,I.kIn a o hk,hc,n,by simpa using hs⟩,?_⟩
  have e:=r.length
  simp only[Array.length_toList] at e
  omega
theorem Inv.list_inj(I:Inv X pins σ H s)(h:SqL X.K H a xs)(h':SqL X.K H a ys):xs=ys:=by
 obtain⟨aB,r,⟨o,n,e,_,_,d⟩,_⟩:=I.list h
 obtain⟨its',r',⟨o',n',e',_,_,d'⟩,_⟩:=I.list h'
 rw[e] at e';cases e'
 rw[d] at d'
 injection d' with d1 _
 have:aB=its':=by simpa using congrArg Array.toList d1
 subst this
 exact r.inj r'
theorem Inv.tuple_inj(I:Inv X pins σ H s)(h:SqT X.K H a xs)(h':SqT X.K H a ys):xs=ys:=by
 obtain⟨aB,r,⟨o,e,_,n,d⟩,_⟩:=I.tuple h
 obtain⟨its',r',⟨o',e',_,n',d'⟩,_⟩:=I.tuple h'
 rw[e] at e';cases e'
 rw[d] at d'
 injection d' with d1 _
 have:aB=its':=by simpa using congrArg Array.toList d1
 subst this
 exact r.inj r'
end
abbrev Cx.wish(X:Cx)(E:Value→Shared→Prop):Cx:={X with xe:=E}
abbrev Cx.nox(X:Cx):Cx:=X.wish fun _ _=>False
theorem Cx.Ok.wish{X:Cx}(ok:X.Ok)(E:Value→Shared→Prop):(X.wish E).Ok:=
 ⟨ok.mod,ok.kind,ok.glob,ok.blt,ok.above,ok.inj,ok.has,ok.cab,ok.hd,ok.frames,ok.stk,ok.exf,ok.bs,ok.bsz,ok.noex,ok.exfs,ok.funs,ok.frf⟩
theorem Cx.Ok.unwish{X:Cx}{E:Value→Shared→Prop}(ok:(X.wish E).Ok):X.Ok:=
 ⟨ok.mod,ok.kind,ok.glob,ok.blt,ok.above,ok.inj,ok.has,ok.cab,ok.hd,ok.frames,ok.stk,ok.exf,ok.bs,ok.bsz,ok.noex,ok.exfs,ok.funs,ok.frf⟩
section
variable{X:Cx}{pins:List (Addr×Obj)}{σ:St}{H:Hp}{s:Shared}{E:Value→Shared→Prop}
theorem Inv.wish(I:Inv X pins σ H s)(E:Value→Shared→Prop):Inv (X.wish E) pins σ H s:=⟨I.ok.wish E,I.os,I.bare,I.base,I.loc,I.cell,I.free,I.freeC,I.pin,I.hok,I.len⟩
theorem Inv.unwish(I:Inv (X.wish E) pins σ H s):Inv X pins σ H s:=⟨I.ok.unwish,I.os,I.bare,I.base,I.loc,I.cell,I.free,I.freeC,I.pin,I.hok,I.len⟩
theorem SP.unwish{D:Ends}{f:Flow}{s':Shared}(h:SP (X.wish E) pins D f s'):SP X pins D f s':=by
 cases f with
 |next=>obtain⟨σ',H',I,q⟩:=h;exact⟨σ',H',I.unwish,q⟩
 |brk=>obtain⟨σ',H',I,q⟩:=h;exact⟨σ',H',I.unwish,q⟩
 |cont=>obtain⟨σ',H',I,q⟩:=h;exact⟨σ',H',I.unwish,q⟩
 |ret u=>obtain⟨v,σ',H',I,r,q⟩:=h;exact⟨v,σ',H',I.unwish,r,q⟩
theorem PE.nox{e:Expr}{t:TE}(h:PE X.nox e t):PE X e t:=fun pins s σ H Q I hw=>
 wpAny_mono (h pins s σ H Q (I.wish _) hw) (fun _ _ ⟨v,H',I',r,q⟩=>⟨v,H',I'.unwish,r,q⟩) fun _ _ z=>False.elim z
theorem PT.nox{e:Expr}{t:TT}(h:PT X.nox e t):PT X e t:=fun pins s σ H Q I hw=>
 wpAny_mono (h pins s σ H Q (I.wish _) hw) (fun _ _ ⟨H',I',q⟩=>⟨H',I'.unwish,q⟩) fun _ _ z=>False.elim z
theorem PSs.nox{st:List Stmt}{t:TS}(h:PSs X.nox st t):PSs X st t:=fun pins s σ H D I hw=>
 wpAny_mono (h pins s σ H D (I.wish _) hw) (fun _ _ q=>q.unwish) fun _ _ z=>False.elim z
end
section
variable{X:Cx}{st:Stmt}{rest:List Stmt}{t u:TS}{e:Expr}{te:TE}{pos:Pos}
def K3:TS:=fun D σ H=>D.nx σ H
def Ny(t u:TS):TS:=fun D σ H=>t {D with nx:=u D} σ H
theorem Fe:PSs X [] K3:=fun _ _ σ H _ I h=>wpAny_execs_nil ⟨σ,H,I,h⟩
theorem CP(h1:PS X st t)(h2:PSs X rest u):PSs X (st::rest) (Ny t u):=by
 intro pins s σ H D I h
 refine wpAny_execs_cons (bN (h1 pins s σ H {D with nx:=u D} I h) fun f s1 q=>?_)
 cases f with
 |next=>
  obtain⟨σ',H',I',q⟩:=q
  exact h2 pins s1 σ' H' D I' q
 |ret v=>exact q
 |brk=>exact q
 |cont=>exact q
theorem Ff(h1:PS X st t):PSs X [st] t:=by
 intro pins s σ H D I h
 refine wpAny_execs_cons (bN (h1 pins s σ H D I h) fun f s1 q=>?_)
 cases f with
 |next=>exact wpAny_execs_nil q
 |ret v=>exact q
 |brk=>exact q
 |cont=>exact q
theorem Inv.quiet{pins:List (Addr×Obj)}{σ:St}{H:Hp}{s:Shared}(I:Inv X pins σ H s):interactive X.env=false:=by simp[interactive,I.ok.kind]
def Dl(te:TE):TS:=fun D σ H=>te σ H fun _ H1=>D.nx σ H1
theorem nA(he:PE X e te)(hs:swapsWith e none pos.line X.env=pure false:=by rfl):PS X (.Expr e pos) (Dl te):=by
 intro pins s σ H D I h
 exact wpAny_Expr_any (bN (he pins s σ H _ I h) fun v s1 ⟨x,H1,I1,r1,q1⟩=>⟨σ,H1,I1,q1⟩) I.quiet hs
def Nx(te:TE):TS:=fun D σ H=>te σ H D.rt
theorem H8(he:PE X e te):PS X (.Return (some e) pos) (Nx te):=by
 intro pins s σ H D I h
 exact wpAny_Return_some (bN (he pins s σ H _ I h) fun v s1 ⟨x,H1,I1,r1,q1⟩=>⟨x,σ,H1,I1,r1,q1⟩)
def Nu(c:TT)(t u:TS):TS:=fun D σ H=>c σ H fun b H1=>if b=true then t D σ H1 else u D σ H1
theorem Kx{c:Expr}{a b:List Stmt}{tc:TT}(hc:PT X c tc)(ha:PSs X a t)(hb:PSs X b u):PS X (.If c a b pos) (Nu tc t u):=by
 intro pins s σ H D I h
 refine wpAny_If (bN (hc pins s σ H _ I h) fun d s1 ⟨H1,I1,q1⟩=>?_)
 cases d with
 |true=>exact ha pins s1 σ H1 D I1 q1
 |false=>exact hb pins s1 σ H1 D I1 q1
end
abbrev TG:=V→St→Hp→(St→Hp→Prop)→Prop
abbrev FP:=List V→St→Hp→(St→Hp→Prop)→Prop
def PG(X:Cx)(target:Expr)(t:TG):Prop:=
 ∀(pins:List (Addr×Obj)) (s:Shared) (σ:St) (H:Hp) (v:V) (u:Value) (Q:St→Hp→Prop),Inv X pins σ H s→RelV v u→t v σ H Q→
  wpAny (model X.prog X.w) X.A (assign target X.env u) (fun _ s'=>∃σ' H',Inv X pins σ' H' s'∧Q σ' H') X.xe s
def Ld(X:Cx)(ts:List Expr)(t:FP):Prop:=
 ∀(pins:List (Addr×Obj)) (s:Shared) (σ:St) (H:Hp) (vs:List V) (us:List Value) (Q:St→Hp→Prop),Inv X pins σ H s→Vals vs us→t vs σ H Q→
  wpAny (model X.prog X.w) X.A (assignInOrder ((assignEach ts X.env).map (·.2)) us) (fun _ s'=>∃σ' H',Inv X pins σ' H' s'∧Q σ' H') X.xe s
abbrev LW:=V→V→V→Hp→(Hp→Prop)→Prop
section
variable{X:Cx}{pos:Pos}
def Bs(i:Nat):TG:=fun v σ H Q=>Q (σ.set i (some v)) H
theorem a7{i:Nat}{x:Str}(hN:X.N.Nodup)(hi:X.N[i]? =some x)(hx:Loc X.env.scope x)(hf:X.fn x=true∨X.env.scope.names.lookup x=some .local:=by first | exact .inl rfl | exact .inr rfl | assumption):PG X (.Name x pos) (Bs i):=by
 intro pins s σ H v u Q I r h
 exact wpAny_assign_Name (v8 I hN hi hx r (fun s' I'=>⟨_,H,I',h⟩) hf)
def Jt:FP:=fun vs σ H Q=>vs=[]∧Q σ H
def FZ(t:TG)(u:FP):FP:=fun vs σ H Q=>∃v r,vs=v::r∧t v σ H fun σ' H'=>u r σ' H' Q
theorem nz:Ld X [] Jt:=by
 intro pins s σ H vs us Q I r h
 obtain⟨e,h⟩:=h
 subst e
 cases r
 exact assignInOrder_nil ⟨σ,H,I,h⟩
theorem eT{e:Expr}{es:List Expr}{t:TG}{u:FP}(h1:PG X e t)(h2:Ld X es u)
 (hs:(assignEach (e::es) X.env).map (·.2)=assign e X.env::(assignEach es X.env).map (·.2):=by rfl):Ld X (e::es) (FZ t u):=by
 intro pins s σ H vs us Q I r h
 obtain⟨v,vr,e1,h⟩:=h
 subst e1
 cases r with
 |cons r rr=>
  rw[hs]
  refine assignInOrder_cons (bN (h1 pins s σ H _ _ _ I r h) fun _ s1 ⟨σ1,H1,I1,q1⟩=>?_)
  exact h2 pins s1 σ1 H1 _ _ Q I1 rr q1
def GU(K:W.Frag)(n:Nat)(t:FP):TG:=fun v σ H Q=>∃a xs,v= .ref a∧SqT K H a xs∧xs.length=n∧t xs σ H Q
theorem tK{es:List Expr}{k:Nat}{t:FP}{n:Nat}(hc:X.calm=true)(h:Ld X es t)
 (hn:(assignEach es X.env).length=n:=by rfl)(pT:(assignEach es X.env).findIdx? (·.1)=none:=by rfl):PG X (.Tuple es k pos) (GU X.K n t):=by
 intro pins s σ H v u Q I r hw
 obtain⟨a,xs,e1,hq,hl,hw⟩:=hw
 subst e1
 cases r
 obtain⟨aB,rv,ht,hz⟩:=I.tuple hq
 refine assign_Tuple_tuple (I.ok.hd hc) ht (by simp[hn,←hl,rv.length]) pT fun h' hx=>?_
 have I1:Inv X pins σ H {s with heap:=h'}:=I.kept (t':=s.toks) fun b o e=>hx b o (Nat.ne_of_lt (Heap.lt_size e)) e
 exact h pins _ σ H xs _ Q I1 (by simpa using rv) hw
def nY(to ti:TE)(t:LW):TG:=fun v σ H Q=>to σ H fun o H1=>ti σ H1 fun i H2=>t o i v H2 fun H3=>Q σ H3
def Nm(te:TE)(g:TG):TS:=fun D σ H=>te σ H fun x H1=>g x σ H1 D.nx
theorem tL{tg e:Expr}{te:TE}{g:TG}(he:PE X e te)(hg:PG X tg g)(hs:swapsWithSole [tg] e pos.line X.env=pure false:=by rfl)(hw:swappedStores [tg] e X.env=pure none:=by rfl)
 (h1:(assignEach [tg] X.env).map (·.2)=[assign tg X.env]:=by rfl):PS X (.Assign [tg] e pos) (Nm te g):=by
 intro pins s σ H D I h
 refine wpAny_Assign_stores (bN (he pins s σ H _ I h) fun v s1 ⟨x,H1,I1,r1,q1⟩=>?_) hs hw
 rw[h1]
 exact bN (hg pins s1 σ H1 x v _ I1 r1 q1) fun _ s2 q=>q
end
section
variable{X:Cx}{pos:Pos}
def Iz(c:TT)(tb:TS):TS:=fun D σ H=>∃W:Nat→St→Hp→Prop,(∃m,W m σ H)∧∀m σ H,W m σ H→
 c σ H fun b H1=>if b=true then∃N:St→Hp→Prop,(∀σ' H',N σ' H'→∃m',m'<m∧W m' σ' H')∧tb {D with nx:=N,ct:=N,bk:=D.nx} σ H1 else D.nx σ H1
theorem CN{c:Expr}{body:List Stmt}{tc:TT}{tb:TS}(hp:PassesOwn (model X.prog X.w) X.A X.env X.xe)(hc:PT X c tc)(hb:PSs X body tb):PS X (.While c body [] pos) (Iz tc tb):=by
 intro pins s σ H D I h
 obtain⟨W,⟨m0,w0⟩,turn⟩:=h
 refine wpAny_While (codeAny_whileLoop (fun n s'=>∃σ' H',Inv X pins σ' H' s'∧W n σ' H') ?_ m0 ⟨σ,H,I,w0⟩)
 rintro n s1 ⟨σ1,H1,I1,w1⟩
 refine wpAny_passesOwn hp (bN (hc pins s1 σ1 H1 _ I1 (turn n σ1 H1 w1)) fun b s2 ⟨H2,I2,q2⟩=>?_)
 cases b with
 |true=>
  obtain⟨N,hN,q2⟩:=q2
  rw[if_pos rfl]
  refine wpAny_passesOwn hp (bN (hb pins s2 σ1 H2 _ I2 q2) fun f s3 q3=>?_)
  cases f with
  |next=>
   obtain⟨σ3,H3,I3,n3⟩:=q3
   obtain⟨m',hm,w3⟩:=hN σ3 H3 n3
   exact⟨m',hm,σ3,H3,I3,w3⟩
  |cont=>
   obtain⟨σ3,H3,I3,n3⟩:=q3
   obtain⟨m',hm,w3⟩:=hN σ3 H3 n3
   exact⟨m',hm,σ3,H3,I3,w3⟩
  |brk=>exact q3
  |ret v=>exact q3
 |false=>
  rw[if_neg Bool.false_ne_true]
  exact wpAny_execs_nil ⟨σ1,H2,I2,q2⟩
end
structure It where
 go:Nat→Hp→Prop
 yld:Nat→Hp→V→Hp→Prop
 stop:Nat→Hp→Prop
def pU(X:Cx)(pins:List (Addr×Obj))(H:Hp)(b:Addr):Prop:=
 H b=none∧b≠X.env.locals∧b∉X.fs∧(b∈X.ex∨X.s₀.heap.objs.size≤b)∧(∀x c,X.env.cells.lookup x=some c→c≠b)∧∀p∈X.pn++pins,p.1≠b
theorem Inv.fpOk{X:Cx}{pins:List (Addr×Obj)}{σ:St}{H H':Hp}{s:Shared}{b:Addr}(I:Inv X pins σ H s)(hb:s.heap.objs.size≤b)(hn:H' b=none):pU X pins H' b:=by
 refine⟨hn,Nat.ne_of_gt (Nat.lt_of_lt_of_le I.lt hb),I.nofs hb, .inr (Nat.le_trans I.sz hb),fun x c e z=>?_,fun p hp z=>?_⟩
 ·obtain⟨v,q⟩:=I.cell x c e
  exact absurd (Nat.lt_of_lt_of_le q.lt (by rw[z];exact hb)) (Nat.lt_irrefl _)
 ·exact absurd (Nat.lt_of_lt_of_le (Heap.lt_size (I.pin p hp).1) (by rw[z];exact hb)) (Nat.lt_irrefl _)
structure Turn (P:Program) (w:World) (K:W.Frag) (tg:Expr) (J:It) (fp:List Addr) (it:Addr) (tn:Nat→Heap→Prop):Prop where
 mem:it∈fp
 obj:∀i h,tn i h→∀b∈fp,∃o,h.get? b=some o∧∀v,o.data≠ .cell v
 keep:∀i h h',tn i h→(∀b∈fp,∀o,h.get? b=some o→h'.get? b=some o)→tn i h'
 item:∀(X:Cx),X.prog=P→X.w=w→X.K=K→X.calm=true→∀(i:Nat) (pins:List (Addr×Obj)) (s:Shared) (σ:St) (H:Hp) (E:Value→Shared→Prop),Inv X pins σ H s→(∀b∈fp,pU X pins H b)→tn i s.heap→J.go i H→
  wpAny (model P w) X.A (pyNext (.ref it)) (fun r s1=>∃u,r=some u∧
   wpAny (model P w) X.A (letOwnedTupleGo tg (.ref it) u) (fun _ s2=>∃x H',Inv X pins σ H' s2∧RelV x u∧J.yld i H x H'∧tn (i+1) s2.heap∧∀b∈fp,H' b=none) E s1) E s
 done:∀(X:Cx),X.prog=P→X.w=w→X.K=K→X.calm=true→∀(i:Nat) (pins:List (Addr×Obj)) (s:Shared) (σ:St) (H:Hp) (E:Value→Shared→Prop),Inv X pins σ H s→(∀b∈fp,pU X pins H b)→tn i s.heap→J.stop i H→
  wpAny (model P w) X.A (pyNext (.ref it)) (fun r s1=>r=none∧Inv X pins σ H s1) E s
 self:∀(A:Around) (i:Nat) (s:Shared) (Q:Value→Shared→Prop) (E:Value→Shared→Prop),tn i s.heap→Q (.ref it) s→wpAny (model P w) A (pyIter (.ref it)) Q E s
abbrev TI:=St→Hp→(It→Hp→Prop)→Prop
def NJ(X:Cx)(pins:List (Addr×Obj))(σ:St)(tg:Expr)(R:It→Hp→Prop)(OC:Value)(s2:Shared):Prop:=
 ∃(it:Addr) (fp:List Addr) (tn:Nat→Heap→Prop) (J:It) (H':Hp),OC= .ref it∧Inv X pins σ H' s2∧Turn X.prog X.w X.K tg J fp it tn∧tn 0 s2.heap∧(∀b∈fp,pU X pins H' b)∧R J H'
def PI(X:Cx)(tg iter:Expr)(wi:TI):Prop:=
 ∀(pins:List (Addr×Obj)) (s:Shared) (σ:St) (H:Hp) (R:It→Hp→Prop),Inv X pins σ H s→wi σ H R→
  wpAny (model X.prog X.w) X.A (eval iter X.env) (fun v s1=>wpAny (model X.prog X.w) X.A (pyIter v) (NJ X pins σ tg R) X.xe s1) X.xe s
theorem qK{M:Model}{A:Around}{E:Value→Shared→Prop}{s:Shared}{tg:Expr}{it:Addr}{u:Value}{o:Obj}{n:String}{vs:Array Value}{Q:Unit→Shared→Prop}(ho:s.heap.get? it=some o)(hc:o.cls= .type n)(hd:o.data= .fields vs)
 (hn:["enumerate","zip","dict_itemiterator","dict_reverseitemiterator","odict_iterator","itertools.zip_longest","itertools.pairwise"].contains n=false)(hQ:Q () s):wpAny M A (letOwnedTupleGo tg (.ref it) u) Q E s:=by
 unfold letOwnedTupleGo
 cases tg<;>first
  |exact wpAny_pure hQ
  |(cases u<;>first
    |exact wpAny_pure hQ
    |(refine wpAny_bind (wpAny_load ho ?_)
      rw[hc,hd]
      show wpAny M A (if (["enumerate","zip","dict_itemiterator","dict_reverseitemiterator","odict_iterator","itertools.zip_longest","itertools.pairwise"].contains n&&vs[0]? ==some (rawInt _))=true then _ else _) Q E s
      rw[if_neg (by intro h;rw[hn,Bool.false_and] at h;cases h)]
      exact wpAny_pure hQ))
def LS(K:W.Frag)(a:Addr):It:=
 ⟨fun i H=>∃xs x,SqL K H a xs∧xs[i]? =some x,fun i H x H'=>H'=H∧∀xs,SqL K H a xs→xs[i]? =some x,fun i H=>∃xs,SqL K H a xs∧xs.length≤i⟩
def LU(K:W.Frag)(a:Addr):It:=
 ⟨fun i H=>∃xs x,SqT K H a xs∧xs[i]? =some x,fun i H x H'=>H'=H∧∀xs,SqT K H a xs→xs[i]? =some x,fun i H=>∃xs,SqT K H a xs∧xs.length≤i⟩
def IX(lo:Int)(n:Nat):It:=⟨fun i _=>i<n,fun i H x H'=>H'=H∧x= .int (lo+i),fun i _=>n≤i⟩
theorem AF{P:Program}{w:World}{K:W.Frag}{tg:Expr}(a it:Addr):Turn P w K tg (LS K a) [it] it (fun i h=>h.IsListIter it a i) where
 mem:=by simp
 obj:=fun i h st b hb=>by
  have e:b=it:=by simpa using hb
  subst e
  obtain⟨o,e,c,d⟩:=st
  exact⟨o,e,fun v z=>by rw[d] at z;cases z⟩
 keep:=fun i h h' st k=>st.at fun o e=>k it (by simp) o e
 item:=by
  intro X hP hw hK hc i pins s σ H E I hf st hg
  subst hP hw hK
  obtain⟨xs,x,hq,hx⟩:=hg
  obtain⟨aB,rv,p,hz⟩:=I.list hq
  obtain⟨u,hu,ru⟩:=rv.get hx
  obtain⟨f0,f1,f2,f3,f4,f5⟩:=hf it (by simp)
  refine wpAny_pyNext_list_item st p.isList (x:=u) (by simpa using hu) fun h' pD sb=>?_
  have I1:Inv X pins σ H {s with heap:=h'}:=I.turned (t':=s.toks) (fun b o hb e=>(sb.2 b hb).trans e) f0 f1 f3 f4 f5
  obtain⟨o,e,c,d⟩:=id pD
  exact⟨u,rfl,qK (s:={s with heap:=h'}) e c d (by decide) ⟨x,H,I1,ru,⟨rfl,fun ys hy=>by rw[I.list_inj hy hq];exact hx⟩,pD,fun b hb=>(hf b hb).1⟩⟩
 done:=by
  intro X hP hw hK hc i pins s σ H E I hf st hg
  subst hP hw hK
  obtain⟨xs,hq,hx⟩:=hg
  obtain⟨aB,rv,p,hz⟩:=I.list hq
  obtain⟨f0,f1,f2,f3,f4,f5⟩:=hf it (by simp)
  have hl:=rv.length
  exact wpAny_pyNext_list_end (I.ok.hd hc) st p.isList (by simp;omega) fun h' eb=>⟨rfl,I.turned (t':=s.toks) (fun b o hb e=>eb b o hb e) f0 f1 f3 f4 f5⟩
 self:=fun _ _ _ _ _ st h=>wpAny_pyIter_listiter st h
theorem ya{P:Program}{w:World}{K:W.Frag}{tg:Expr}(a it:Addr):Turn P w K tg (LU K a) [it] it (fun i h=>h.IsTupleIter it a i) where
 mem:=by simp
 obj:=fun i h st b hb=>by
  have e:b=it:=by simpa using hb
  subst e
  obtain⟨o,e,c,d⟩:=st
  exact⟨o,e,fun v z=>by rw[d] at z;cases z⟩
 keep:=fun i h h' st k=>st.at fun o e=>k it (by simp) o e
 item:=by
  intro X hP hw hK hc i pins s σ H E I hf st hg
  subst hP hw hK
  obtain⟨xs,x,hq,hx⟩:=hg
  obtain⟨aB,rv,p,hz⟩:=I.tuple hq
  obtain⟨u,hu,ru⟩:=rv.get hx
  obtain⟨f0,f1,f2,f3,f4,f5⟩:=hf it (by simp)
  refine wpAny_pyNext_tuple_item st (show s.heap.IsTuple a aB.toArray from p) (x:=u) (by simpa using hu) fun h' pD sb=>?_
  have I1:Inv X pins σ H {s with heap:=h'}:=I.turned (t':=s.toks) (fun b o hb e=>(sb.2 b hb).trans e) f0 f1 f3 f4 f5
  obtain⟨o,e,c,d⟩:=id pD
  exact⟨u,rfl,qK (s:={s with heap:=h'}) e c d (by decide) ⟨x,H,I1,ru,⟨rfl,fun ys hy=>by rw[I.tuple_inj hy hq];exact hx⟩,pD,fun b hb=>(hf b hb).1⟩⟩
 done:=by
  intro X hP hw hK hc i pins s σ H E I hf st hg
  subst hP hw hK
  obtain⟨xs,hq,hx⟩:=hg
  obtain⟨aB,rv,p,hz⟩:=I.tuple hq
  obtain⟨f0,f1,f2,f3,f4,f5⟩:=hf it (by simp)
  have hl:=rv.length
  exact wpAny_pyNext_tuple_end (I.ok.hd hc) st (show s.heap.IsTuple a aB.toArray from p) (by simp;omega) fun h' eb=>⟨rfl,I.turned (t':=s.toks) (fun b o hb e=>eb b o hb e) f0 f1 f3 f4 f5⟩
 self:=fun _ _ _ _ _ st h=>wpAny_pyIter_tupleiter st h
theorem x_{P:Program}{w:World}{K:W.Frag}{tg:Expr}(it:Addr)(lo:Int)(n:Nat):Turn P w K tg (IX lo n) [it] it (fun i h=>IsRangeIter h it (lo+(i:Nat)*1) ((n:Int) - (i:Nat)) 1) where
 mem:=by simp
 obj:=fun i h st b hb=>by
  have e:b=it:=by simpa using hb
  subst e
  exact⟨_,st,fun v z=>by
   have z':Data.fields _=Data.cell v:=z
   cases z'⟩
 keep:=fun i h h' st k=>k it (by simp) _ st
 item:=by
  intro X hP hw hK hc i pins s σ H E I hf st hg
  subst hP hw hK
  obtain⟨f0,f1,f2,f3,f4,f5⟩:=hf it (by simp)
  have W:=Walks.range (prog:=X.prog) (w:=X.w) (I.ok.hd hc) it lo 1 n
  refine W.item i s _ _ hg st fun v h' tk hv pD kk=>?_
  obtain⟨t,rfl⟩:=hv
  have I1:Inv X pins σ H {s with heap:=h',toks:=tk}:=I.turned (fun b o hb e=>kk b o (by simpa using hb) e) f0 f1 f3 f4 f5
  refine⟨_,rfl,qK (s:={s with heap:=h',toks:=tk}) (n:="range_iterator") pD rfl rfl (by decide) ⟨.int (lo+i),H,I1,⟨t,?_⟩,⟨rfl,rfl⟩,pD,fun b hb=>(hf b hb).1⟩⟩
  rw[Int.mul_one]
 done:=by
  intro X hP hw hK hc i pins s σ H E I hf st hg
  subst hP hw hK
  obtain⟨f0,f1,f2,f3,f4,f5⟩:=hf it (by simp)
  exact wpAny_pyNext_range_end (I.ok.hd hc) st (by have:n≤i:=hg;omega) fun h' eb=>⟨rfl,I.turned (t':=s.toks) (fun b o hb e=>eb b o hb e) f0 f1 f3 f4 f5⟩
 self:=fun _ _ _ _ _ st h=>wpAny_pyIter_rangeiter st h
section
variable{X:Cx}{tg:Expr}
def J5(K:W.Frag)(tl:TE):TI:=fun σ H R=>tl σ H fun x H1=>∃a,x= .ref a∧(∃xs,SqL K H1 a xs)∧R (LS K a) H1
def MX(K:W.Frag)(tl:TE):TI:=fun σ H R=>tl σ H fun x H1=>∃a,x= .ref a∧(∃xs,SqT K H1 a xs)∧R (LU K a) H1
theorem E7{l:Expr}{tl:TE}(hl:PE X l tl):PI X tg l (J5 X.K tl):=by
 intro pins s σ H R I h
 refine bN (hl pins s σ H _ I h) fun v s1 ⟨x,H1,I1,r1,q1⟩=>?_
 obtain⟨a,e,⟨xs,hq⟩,q⟩:=q1
 subst e
 cases r1
 obtain⟨aB,rv,p,hz⟩:=I1.list hq
 refine wpAny_pyIter_list p.isList ?_
 refine⟨s1.heap.objs.size,[s1.heap.objs.size],_,_,H1,rfl,I1.kept (t':=s1.toks) fun b o e=>Heap.get?_push_of_some _ e,AF a _,⟨_,Heap.get?_push_size _ rfl,rfl,rfl⟩,fun b hb=>?_,q⟩
 have e:b=s1.heap.objs.size:=by simpa using hb
 subst e
 exact I1.fpOk (Nat.le_refl _) (I1.hok.fresh (Nat.le_refl _))
theorem HZ{l:Expr}{tl:TE}(hl:PE X l tl):PI X tg l (MX X.K tl):=by
 intro pins s σ H R I h
 refine bN (hl pins s σ H _ I h) fun v s1 ⟨x,H1,I1,r1,q1⟩=>?_
 obtain⟨a,e,⟨xs,hq⟩,q⟩:=q1
 subst e
 cases r1
 obtain⟨aB,rv,p,hz⟩:=I1.tuple hq
 refine wpAny_pyIter_tuple (show s1.heap.IsTuple a aB.toArray from p) ?_
 refine⟨s1.heap.objs.size,[s1.heap.objs.size],_,_,H1,rfl,I1.kept (t':=s1.toks) fun b o e=>Heap.get?_push_of_some _ e,ya a _,⟨_,Heap.get?_push_size _ rfl,rfl,rfl⟩,fun b hb=>?_,q⟩
 have e:b=s1.heap.objs.size:=by simpa using hb
 subst e
 exact I1.fpOk (Nat.le_refl _) (I1.hok.fresh (Nat.le_refl _))
theorem vM{pins:List (Addr×Obj)}{σ:St}{H:Hp}{s:Shared}{R:It→Hp→Prop}{E:Value→Shared→Prop}{lo hi:Int}{t u v:Tok}{tk:Nat}(I:Inv X pins σ H s)(h1: -(2 ^ 62)≤lo)(h2:lo<2 ^ 62)(h3: -(2 ^ 62)≤hi)(h4:hi<2 ^ 62)
 (q:R (IX lo (hi - lo).toNat) H):wpAny (model X.prog X.w) X.A (pyIter (.ref s.heap.objs.size)) (NJ X pins σ tg R) E {s with heap:=s.heap.push {cls:= .type "range",data:= .fields #[.int lo t, .int hi u, .int 1 v]},toks:=tk}:=by
 refine wpAny_pyIter_range (IsRange.new ..) (small_one h1 h2 h3 h4) ?_
 have I1:Inv X pins σ H {s with heap:=s.heap.push {cls:= .type "range",data:= .fields #[.int lo t, .int hi u, .int 1 v]},toks:=tk}:=I.kept fun b o e=>Heap.get?_push_of_some _ e
 refine⟨(s.heap.push {cls:= .type "range",data:= .fields #[.int lo t, .int hi u, .int 1 v]}).objs.size,[(s.heap.push {cls:= .type "range",data:= .fields #[.int lo t, .int hi u, .int 1 v]}).objs.size],_,_,H,rfl,
  I1.kept (t':=tk) fun b o e=>Heap.get?_push_of_some _ e,x_ _ lo (hi - lo).toNat,?_,fun b hb=>?_,q⟩
 ·have e1:lo+((0:Nat):Int)*1=lo:=by simp
  have e2:(((hi - lo).toNat:Nat):Int) - ((0:Nat):Int)=Builtin.Range.rangeSize lo hi 1:=by rw[rangeSize_one];split<;>omega
  show IsRangeIter _ _ (lo+((0:Nat):Int)*1) ((((hi - lo).toNat:Nat):Int) - ((0:Nat):Int)) 1
  rw[e1,e2]
  exact Heap.get?_push_size _ rfl
 ·have e:b=(s.heap.push {cls:= .type "range",data:= .fields #[.int lo t, .int hi u, .int 1 v]}).objs.size:=by simpa using hb
  subst e
  exact I1.fpOk (Nat.le_refl _) (I1.hok.fresh (Nat.le_refl _))
def J6(ta:TA):TI:=fun σ H R=>ta σ H fun vs H1=>∃j:Int,vs=[.int j]∧ -(2 ^ 62)≤j∧j<2 ^ 62∧R (IX 0 j.toNat) H1
def J7(ta:TA):TI:=fun σ H R=>ta σ H fun vs H1=>∃i j:Int,vs=[.int i, .int j]∧(-(2 ^ 62)≤i∧i<2 ^ 62∧ -(2 ^ 62)≤j∧j<2 ^ 62)∧R (IX i (j - i).toNat) H1
theorem Ao{a:Expr}{ta:TA}{p pos:Pos}(hg:Gl X "range")(hm:X.mg "range"=none)(ha:PA X [a] ta)(hs:starEach [a] X.env=[(false,eval a X.env)]:=by rfl):PI X tg (.Call (.Name "range" p) [a] [] pos) (J6 ta):=by
 intro pins s σ H R I h
 refine Call_ (gQ I hg hm boot_range (PyProof.Rows.callWith_type1 (bN (ha pos pins s σ H _ I h) fun us s1 ⟨vs,H1,I1,r1,q1⟩=>?_) hs rfl))
 obtain⟨j,e,q1,q2,q⟩:=q1
 subst e
 cases r1 with
 |cons r rr=>
  cases rr
  obtain⟨t,rfl⟩:=r
  exact call_range_1 (vM I1 (by omega) (by omega) q1 q2 (by simpa using q))
theorem Ap{a b:Expr}{ta:TA}{p pos:Pos}(hg:Gl X "range")(hm:X.mg "range"=none)(ha:PA X [a,b] ta)(hs:starEach [a,b] X.env=[(false,eval a X.env),(false,eval b X.env)]:=by rfl)(IJ:starEach [b] X.env=[(false,eval b X.env)]:=by rfl):
 PI X tg (.Call (.Name "range" p) [a,b] [] pos) (J7 ta):=by
 intro pins s σ H R I h
 refine Call_ (gQ I hg hm boot_range (PyProof.Rows.callWith_type1 (bN (ha pos pins s σ H _ I h) fun us s1 ⟨vs,H1,I1,r1,q1⟩=>?_) (by rw[hs,IJ]) (by rw[IJ];rfl)))
 obtain⟨i,j,e,⟨q1,q2,q3,q4⟩,q⟩:=q1
 subst e
 cases r1 with
 |cons r rr=>
  cases rr with
  |cons r' rr=>
   cases rr
   obtain⟨t,rfl⟩:=r
   obtain⟨t',rfl⟩:=r'
   exact call_range_2 (vM I1 q1 q2 q3 q4 q)
def Nt(wi:TI)(g:TG)(tb:TS):TS:=fun D σ H=>wi σ H fun J H1=>∃W:Nat→Nat→St→Hp→Prop,(∃m,W 0 m σ H1)∧∀i m σ H,W i m σ H→
 (J.stop i H∧D.nx σ H)∨(J.go i H∧∃N:St→Hp→Prop,(∀σ' H',N σ' H'→∃m',m'<m∧W (i+1) m' σ' H')∧∀x H',J.yld i H x H'→g x σ H' fun σ2 H2=>tb {D with nx:=N,ct:=N,bk:=D.nx} σ2 H2)
def o8(fp:List Addr)(h:Heap):List (Addr×Obj):=fp.filterMap fun b=>(h.get? b).map fun o=>(b,o)
theorem gT{fp:List Addr}{h:Heap}{b:Addr}{o:Obj}(hb:b∈fp)(e:h.get? b=some o):(b,o)∈o8 fp h:=List.mem_filterMap.mpr ⟨b,hb,by rw[e];rfl⟩
theorem Ac{fp:List Addr}{h:Heap}{p:Addr×Obj}(hp:p∈o8 fp h):p.1∈fp∧h.get? p.1=some p.2:=by
 obtain⟨b,hb,e⟩:=List.mem_filterMap.mp hp
 cases q:h.get? b with
 |none=>rw[q] at e;cases e
 |some o=>
  rw[q] at e
  have e':(b,o)=p:=Option.some.inj e
  subst e'
  exact⟨hb,q⟩
theorem Inv.pinned{pins:List (Addr×Obj)}{σ:St}{H:Hp}{s:Shared}{fp:List Addr}(I:Inv X pins σ H s)(hf:∀b∈fp,pU X pins H b)(ho:∀b∈fp,∃o,s.heap.get? b=some o∧∀v,o.data≠ .cell v):Inv X (pins++o8 fp s.heap) σ H s:=
 I.pins_of fun p hp=>(List.mem_append.mp hp).elim (fun z=>I.pin p (List.mem_append_right _ z)) fun z=>by
  obtain⟨hb,e⟩:=Ac z
  obtain⟨f0,f1,f2,_⟩:=hf p.1 hb
  obtain⟨o,e',d⟩:=ho p.1 hb
  rw[e] at e';cases e'
  exact⟨e,f0,f1,f2,d⟩
theorem Inv.unpinned{pins pl:List (Addr×Obj)}{σ:St}{H:Hp}{s:Shared}(I:Inv X (pins++pl) σ H s):Inv X pins σ H s:=I.pins_of fun p hp=>I.pin p (List.mem_append_right _ (List.mem_append_left _ hp))
theorem H0{iter:Expr}{body:List Stmt}{wi:TI}{g:TG}{tb:TS}{pos:Pos}(hp:PassesOwn (model X.prog X.w) X.A X.env X.xe)(hc:X.calm=true)(hi:PI X tg iter wi)(hg:PG X tg g)(hb:PSs X body tb)
 (hs:∀x,foldedSetIterable iter X.env x=pure x:=by intro _;rfl):PS X (.For tg iter body [] pos) (Nt wi g tb):=by
 intro pins s σ H D I h
 refine wpAny_For (bN (hi pins s σ H _ I h) fun v s1 h1=>bN h1 fun OC s2 h2=>?_) hs
 obtain⟨it,fp,tn,J,H2,e,I2,T,xW,f2,W,⟨m0,w0⟩,turn⟩:=h2
 subst e
 have Ir:∀{H':Hp},(∀b∈fp,H' b=none)→∀b∈fp,pU X pins H' b:=fun hn b hb=>⟨hn b hb,(f2 b hb).2⟩
 refine codeAny_forLoop_any (fun n s'=>∃i σ' H',Inv X pins σ' H' s'∧tn i s'.heap∧(∀b∈fp,H' b=none)∧W i n σ' H') ?_ m0 ⟨0,σ,H2,I2,xW,fun b hb=>(f2 b hb).1,w0⟩
 rintro n s3 ⟨i,σ3,H3,I3,IQ,Lj,w3⟩
 rcases turn i n σ3 H3 w3 with⟨stop,qn⟩ | ⟨go,N,hN,step⟩
 ·refine wpAny_passesOwn hp (bN (T.done X rfl rfl rfl hc i pins s3 σ3 H3 X.xe I3 (Ir Lj) IQ stop) fun r s4 ⟨hr,I4⟩=>?_)
  subst hr
  exact wpAny_execs_nil ⟨σ3,H3,I4,qn⟩
 ·refine wpAny_passesOwn hp (bN (T.item X rfl rfl rfl hc i pins s3 σ3 H3 X.xe I3 (Ir Lj) IQ go) fun r s4 ⟨u,hr,h4⟩=>?_)
  subst hr
  refine wpAny_passesOwn hp (bN h4 fun _ s5 ⟨x,H5,I5,r5,y5,Nk,O6⟩=>?_)
  have I5':=I5.pinned (Ir O6) (T.obj _ _ Nk)
  refine wpAny_passesOwn hp (bN (hg _ s5 σ3 H5 x u _ I5' r5 (step x H5 y5)) fun _ s6 ⟨σ6,H6,I6,q6⟩=>?_)
  refine wpAny_passesOwn hp (bN (hb _ s6 σ6 H6 _ I6 q6) fun f s7 q7=>?_)
  have again:∀{σ7:St}{H7:Hp},Inv X (pins++o8 fp s5.heap) σ7 H7 s7→N σ7 H7→∃m,m<n∧∃i σ' H',Inv X pins σ' H' s7∧tn i s7.heap∧(∀b∈fp,H' b=none)∧W i m σ' H':=fun {σ7 H7} I7 n7=>by
   obtain⟨m',hm,w7⟩:=hN σ7 H7 n7
   refine⟨m',hm,i+1,σ7,H7,I7.unpinned,T.keep _ _ _ Nk fun b hb o e=>(I7.pin (b,o) (List.mem_append_right _ (List.mem_append_right _ (gT hb e)))).1,fun b hb=>?_,w7⟩
   obtain⟨o,e,d⟩:=T.obj _ _ Nk b hb
   exact(I7.pin (b,o) (List.mem_append_right _ (List.mem_append_right _ (gT hb e)))).2.1
  cases f with
  |next=>obtain⟨σ7,H7,I7,n7⟩:=q7;exact again I7 n7
  |cont=>obtain⟨σ7,H7,I7,n7⟩:=q7;exact again I7 n7
  |brk=>obtain⟨σ7,H7,I7,q7⟩:=q7;exact⟨σ7,H7,I7.unpinned,q7⟩
  |ret v=>obtain⟨x7,σ7,H7,I7,r7,q7⟩:=q7;exact⟨x7,σ7,H7,I7.unpinned,r7,q7⟩
end
abbrev R2:=V→V→Hp→VK→Prop
def OpR(X:Cx)(f:Value→Value→Sem Value)(r:R2):Prop:=
 ∀(pins:List (Addr×Obj)) (s:Shared) (σ:St) (H:Hp) (x y:V) (v u:Value) (Q:VK),Inv X pins σ H s→RelV x v→RelV y u→r x y H Q→
  wpAny (model X.prog X.w) X.A (f v u) (EP X pins σ Q) X.xe s
def LY(X:Cx)(f:Value→Sem Value)(r:V→Hp→VK→Prop):Prop:=
 ∀(pins:List (Addr×Obj)) (s:Shared) (σ:St) (H:Hp) (x:V) (v:Value) (Q:VK),Inv X pins σ H s→RelV x v→r x H Q→
  wpAny (model X.prog X.w) X.A (f v) (EP X pins σ Q) X.xe s
def CallR(X:Cx)(f:Value)(r:List V→Hp→VK→Prop):Prop:=
 ∀(pins:List (Addr×Obj)) (s:Shared) (σ:St) (H:Hp) (xs:List V) (us:List Value) (Q:VK),Inv X pins σ H s→Vals xs us→r xs H Q→
  wpAny (model X.prog X.w) X.A (call f us) (EP X pins σ Q) X.xe s
def LX(X:Cx)(r:V→Hp→(Bool→Hp→Prop)→Prop):Prop:=
 ∀(pins:List (Addr×Obj)) (s:Shared) (σ:St) (H:Hp) (x:V) (v:Value) (Q:Bool→Hp→Prop),Inv X pins σ H s→RelV x v→r x H Q→
  wpAny (model X.prog X.w) X.A (truthy v) (TP X pins σ Q) X.xe s
def K5(r:R2)(ta tb:TE):TE:=fun σ H Q=>ta σ H fun x H1=>tb σ H1 fun y H2=>r x y H2 Q
def QX(r:V→Hp→VK→Prop)(ta:TE):TE:=fun σ H Q=>ta σ H fun x H1=>r x H1 Q
def rI(C:Int→Int→Prop)(g:Int→Int→V):R2:=fun x y H Q=>∃i j,x= .int i∧y= .int j∧C i j∧Q (g i j) H
def xM(g:Int→Int→V):R2:=fun x y H Q=>∃i j,x= .int i∧y= .int j∧Q (g i j) H
def rU(g:Int→V):V→Hp→VK→Prop:=fun x H Q=>∃i,x= .int i∧Q (g i) H
section
variable{X:Cx}{a b c:Expr}{ta tb tc:TE}{pos:Pos}
theorem GH(ha:PE X a ta)(hb:PE X b tb){pins:List (Addr×Obj)}{s:Shared}{σ:St}{H:Hp}{R:V→V→Hp→Prop}(I:Inv X pins σ H s)
 (h:ta σ H fun x H1=>tb σ H1 fun y H2=>R x y H2){Q:Value→Shared→Prop}{f:Value→Value→Sem Value}
 (hf:∀v u s2 x y H2,Inv X pins σ H2 s2→RelV x v→RelV y u→R x y H2→wpAny (model X.prog X.w) X.A (f v u) Q X.xe s2):
 wpAny (model X.prog X.w) X.A (eval a X.env) (fun v s₁=>wpAny (model X.prog X.w) X.A (eval b X.env) (fun u s₂=>wpAny (model X.prog X.w) X.A (f v u) Q X.xe s₂) X.xe s₁) X.xe s:=by
 refine bN (ha pins s σ H _ I h) fun v s1 ⟨x,H1,I1,r1,q1⟩=>?_
 refine bN (hb pins s1 σ H1 _ I1 q1) fun u s2 ⟨y,H2,I2,r2,q2⟩=>?_
 exact hf v u s2 x y H2 I2 r1 r2 q2
theorem Kv{op:Operator}{r:R2}(ho:OpR X (binaryOp op) r)(ha:PE X a ta)(hb:PE X b tb):PE X (.BinOp a op b pos) (K5 r ta tb):=by
 intro pins s σ H Q I h
 exact wpAny_BinOp (GH ha hb I h fun v u s2 x y H2 I2 rx ry q=>ho pins s2 σ H2 x y v u Q I2 rx ry q)
theorem Kw{op:UnaryOp}{r:V→Hp→VK→Prop}(ho:LY X (unaryOp op) r)(ha:PE X a ta):PE X (.UnaryOp op a pos) (QX r ta):=by
 intro pins s σ H Q I h
 exact UnaryOp_ (bN (ha pins s σ H _ I h) fun v s1 ⟨x,H1,I1,r1,q1⟩=>ho pins s1 σ H1 x v Q I1 r1 q1)
theorem Na{f:Value→Value→Sem Value}{C:Int→Int→Prop}{g:Int→Int→Int}
 (rule:∀(i j:Int) (t u:Tok) (s:Shared) (Q:Value→Shared→Prop) (E:Value→Shared→Prop),C i j→Q (.int (g i j) s.toks) {s with toks:=s.toks+1}→wpAny (model X.prog X.w) X.A (f (.int i t) (.int j u)) Q E s):
 OpR X f (rI C fun i j=> .int (g i j)):=by
 intro pins s σ H x y v u Q I rx ry h
 obtain⟨i,j,rfl,rfl,hc,q⟩:=h
 obtain⟨t,rfl⟩:=rx
 obtain⟨t',rfl⟩:=ry
 exact rule i j t t' s _ _ hc ⟨.int (g i j),H,I.tok _,⟨_,rfl⟩,q⟩
theorem Kl{f:Value→Value→Sem Value}{g:Int→Int→Int}
 (rule:∀(i j:Int) (t u:Tok) (s:Shared) (Q:Value→Shared→Prop) (E:Value→Shared→Prop),Q (.int (g i j) s.toks) {s with toks:=s.toks+1}→wpAny (model X.prog X.w) X.A (f (.int i t) (.int j u)) Q E s):
 OpR X f (xM fun i j=> .int (g i j)):=by
 intro pins s σ H x y v u Q I rx ry h
 obtain⟨i,j,rfl,rfl,q⟩:=h
 obtain⟨t,rfl⟩:=rx
 obtain⟨t',rfl⟩:=ry
 exact rule i j t t' s _ _ ⟨.int (g i j),H,I.tok _,⟨_,rfl⟩,q⟩
theorem EF{f:Value→Value→Sem Value}{g:Int→Int→Bool}
 (rule:∀(i j:Int) (t u:Tok) (s:Shared) (Q:Value→Shared→Prop) (E:Value→Shared→Prop),Q (.bool (g i j)) s→wpAny (model X.prog X.w) X.A (f (.int i t) (.int j u)) Q E s):
 OpR X f (xM fun i j=> .bl (g i j)):=by
 intro pins s σ H x y v u Q I rx ry h
 obtain⟨i,j,rfl,rfl,q⟩:=h
 obtain⟨t,rfl⟩:=rx
 obtain⟨t',rfl⟩:=ry
 exact rule i j t t' s _ _ ⟨.bl (g i j),H,I,rfl,q⟩
def IU(i j:Int):Prop:=0<j∧j<1073741824
def CMul(i j:Int):Prop:=(-(2 ^ 64)<i∧i<2 ^ 64)∨(-(2 ^ 64)<j∧j<2 ^ 64)
theorem CMul.ok{i j:Int}(h:CMul i j):IntMulOk i j:=by
 rcases h with⟨h1,h2⟩ | ⟨h1,h2⟩
 ·exact .of_left (intBits_le_64 h1 h2)
 ·exact .of_right (intBits_le_64 h1 h2)
theorem Hz:OpR X (binaryOp .Add) (xM fun i j=> .int (i+j)):=Kl fun _ _ _ _ _ _ _ q=>add_int q
theorem HE:OpR X (binaryOp .Sub) (xM fun i j=> .int (i - j)):=Kl fun _ _ _ _ _ _ _ q=>sub_int q
theorem HC:OpR X (binaryOp .Mult) (rI CMul fun i j=> .int (i*j)):=Na fun _ _ _ _ _ _ _ hc q=>mul_int q hc.ok
theorem EH:OpR X (binaryOp .FloorDiv) (rI IU fun i j=> .int (i / j)):=Na fun i j _ _ _ _ _ hc q=>by
 have h1:(0:Int)<j:=hc.1
 have h2:j<1073741824:=hc.2
 exact floordiv_int (by omega) (by rw[Int.fdiv_eq_ediv_of_nonneg i (by omega)];exact q) (.inl (PyProof.noPylong_small (by omega)))
theorem HB:OpR X (binaryOp .Mod) (rI (fun _ j=>0<j) fun i j=> .int (i % j)):=Na fun i j _ _ _ _ _ hc q=>by
 have h1:(0:Int)<j:=hc
 exact mod_int' (by omega) (by rw[Int.fmod_eq_emod_of_nonneg i (by omega)];exact q)
theorem QY{f:Value→Sem Value}{g:Int→Int}
 (rule:∀(i:Int) (t:Tok) (s:Shared) (Q:Value→Shared→Prop) (E:Value→Shared→Prop),Q (.int (g i) s.toks) {s with toks:=s.toks+1}→wpAny (model X.prog X.w) X.A (f (.int i t)) Q E s):
 LY X f (rU fun i=> .int (g i)):=by
 intro pins s σ H x v Q I rx h
 obtain⟨i,rfl,q⟩:=h
 obtain⟨t,rfl⟩:=rx
 exact rule i t s _ _ ⟨.int (g i),H,I.tok _,⟨_,rfl⟩,q⟩
theorem IC:LY X (unaryOp .USub) (rU fun i=> .int (-i)):=QY fun _ _ _ _ _ q=>neg_int q
end
section
variable{X:Cx}{a b c:Expr}{ta tb tc:TE}{pos:Pos}
theorem Bj{pins:List (Addr×Obj)}{σ:St}{H:Hp}{s:Shared}{Q:VK}{k k':Bool}(I:Inv X pins σ H s)(q:Q (.bl k) H)(e:k=k'):EP X pins σ Q (.bool k') s:=by
 subst e
 exact⟨.bl k,H,I,rfl,q⟩
theorem yS:OpR X (compareOp .Lt) (xM fun i j=> .bl (decide (i<j))):=EF fun _ _ _ _ _ _ _ q=>lt_int q
theorem kz:OpR X (compareOp .LtE) (xM fun i j=> .bl (decide (i≤j))):=EF fun _ _ _ _ _ _ _ q=>le_int q
theorem Kn:OpR X (compareOp .Gt) (xM fun i j=> .bl (decide (j<i))):=EF fun _ _ _ _ _ _ _ q=>gt_int q
theorem Km:OpR X (compareOp .GtE) (xM fun i j=> .bl (decide (j≤i))):=EF fun _ _ _ _ _ _ _ q=>ge_int q
theorem ri:OpR X (compareOp .In) (fun x y H Q=>∃i j,x= .str i∧y= .str j∧Q (.bl (!(Builtin.Str.occurrences j i 0 j.length 1).isEmpty)) H):=by
 intro pins s σ H x y v u Q I rx ry h
 obtain⟨i,j,rfl,rfl,q⟩:=h
 obtain⟨t,rfl⟩:=rx
 obtain⟨t',rfl⟩:=ry
 exact in_str (Bj I q rfl)
theorem EI:OpR X (compareOp .IsNot) (fun x y H Q=>y= .non∧Q (.bl (!decide (x= .non))) H):=by
 intro pins s σ H x y v u Q I rx ry h
 obtain⟨rfl,q⟩:=h
 cases ry
 refine isnot_none_gen (Bj I q ?_)
 cases x<;>first
  |(cases rx;rfl)
  |(obtain ⟨t,rfl⟩:=rx;rfl)
theorem OpR.or{f:Value→Value→Sem Value}{r r':R2}(h:OpR X f r)(h':OpR X f r'):OpR X f (fun x y H Q=>r x y H Q∨r' x y H Q):=by
 intro pins s σ H x y v u Q I rx ry q
 rcases q with q | q
 ·exact h pins s σ H x y v u Q I rx ry q
 ·exact h' pins s σ H x y v u Q I rx ry q
theorem B_(b:Expr){op:CmpOp}(h:op≠ .In:=by decide)(h2:op≠ .NotIn:=by decide):behindInMarks op b=false:=by
 have e1:(op==CmpOp.In)=false:=by cases op<;>first | rfl | exact absurd rfl h
 have e2:(op==CmpOp.NotIn)=false:=by cases op<;>first | rfl | exact absurd rfl h2
 cases b<;>simp[behindInMarks,e1,e2]
theorem E4{op:CmpOp}{r:R2}(ho:OpR X (compareOp op) r)(ha:PE X a ta)(hb:PE X b tb)(hm:behindInMarks op b=false):PE X (.Compare a [op] [b] pos) (K5 r ta tb):=by
 intro pins s σ H Q I h
 exact wpAny_Compare1 (GH ha hb I h fun v u s2 x y H2 I2 rx ry q=>ho pins s2 σ H2 x y v u Q I2 rx ry q) hm
def Gx(t:TE):TT:=fun σ H Q=>t σ H fun x H'=>∃k,x= .bl k∧Q k H'
theorem Fg{op:CmpOp}{r:R2}(ho:OpR X (compareOp op) r)(ha:PE X a ta)(hb:PE X b tb)(hm:behindInMarks op b=false):PT X (.Compare a [op] [b] pos) (Gx (K5 r ta tb)):=by
 intro pins s σ H Q I h
 refine wpAny_isTrue_Compare1 (bN (ha pins s σ H _ I h) fun v s1 ⟨x,H1,I1,r1,q1⟩=>bN (hb pins s1 σ H1 _ I1 q1) fun u s2 ⟨y,H2,I2,r2,q2⟩=>
  bN (ho pins s2 σ H2 x y v u _ I2 r1 r2 q2) fun c s3 ⟨z,H3,I3,r3,k,e,q3⟩=>?_) hm
 subst e
 cases r3
 exact wpAny_truthy_bool ⟨H3,I3,q3⟩
def xX(r r':R2)(ta tb tc:TE):TE:=fun σ H Q=>ta σ H fun x H1=>tb σ H1 fun y H2=>r x y H2 fun z H3=>∃k,z= .bl k∧
 (if k=true then tc σ H3 fun w' H4=>r' y w' H4 Q else Q (.bl false) H3)
theorem CF{op xB:CmpOp}{r r':R2}(ho:OpR X (compareOp op) r)(qL:OpR X (compareOp xB) r')(ha:PE X a ta)(hb:PE X b tb)(hc:PE X c tc)
 (hm:lastMarks [op,xB] [b,c]=false:=by with_unfolding_all rfl):PE X (.Compare a [op,xB] [b,c] pos) (xX r r' ta tb tc):=by
 intro pins s σ H Q I h
 refine Compare_chain (bN (ha pins s σ H _ I h) fun v s1 ⟨x,H1,I1,r1,q1⟩=>chain_link (bN (hb pins s1 σ H1 _ I1 q1) fun u s2 ⟨y,H2,I2,r2,q2⟩=>
  bN (ho pins s2 σ H2 x y v u _ I2 r1 r2 q2) fun d s3 ⟨z,H3,I3,r3,k,e,q3⟩=>?_)) hm
 subst e
 cases r3
 refine wpAny_truthy_bool ?_
 cases k with
 |false=>exact ite_ff ⟨.bl false,H3,I3,rfl,q3⟩
 |true=>exact ite_tt (chain_last (bN (hc pins s3 σ H3 _ I3 q3) fun w' s4 ⟨z',H4,I4,r4,q4⟩=>qL pins s4 σ H4 y z' u w' Q I4 r2 r4 q4))
theorem CS{op xB:CmpOp}{r r':R2}(ho:OpR X (compareOp op) r)(qL:OpR X (compareOp xB) r')(ha:PE X a ta)(hb:PE X b tb)(hc:PE X c tc)
 (hm:lastMarks [op,xB] [b,c]=false:=by with_unfolding_all rfl):PT X (.Compare a [op,xB] [b,c] pos) (Gx (xX r r' ta tb tc)):=by
 intro pins s σ H Q I h
 refine isTrue_chain (bN (ha pins s σ H _ I h) fun v s1 ⟨x,H1,I1,r1,q1⟩=>test_link (bN (hb pins s1 σ H1 _ I1 q1) fun u s2 ⟨y,H2,I2,r2,q2⟩=>
  bN (ho pins s2 σ H2 x y v u _ I2 r1 r2 q2) fun d s3 ⟨z,H3,I3,r3,k,e,q3⟩=>?_)) hm
 subst e
 cases r3
 refine wpAny_truthy_bool ?_
 cases k with
 |false=>
  obtain⟨k',e',q'⟩:=q3
  cases e'
  exact ite_ff ⟨H3,I3,q'⟩
 |true=>
  refine ite_tt (test_last (bN (hc pins s3 σ H3 _ I3 q3) fun w' s4 ⟨z',H4,I4,r4,q4⟩=>bN (qL pins s4 σ H4 y z' u w' _ I4 r2 r4 q4) fun d' s5 ⟨z2,H5,I5,r5,k2,e2,q5⟩=>?_))
  subst e2
  cases r5
  exact wpAny_truthy_bool ⟨H5,I5,q5⟩
def I9(K:W.Frag)(x:V)(H:Hp)(k:Bool):Prop:=
 match x with
 | .non=>k=false
 | .bl b=>k=b
 | .int i=>k=(i !=0)
 | .str y=>y.length≤sizeLine∧k=((y.length:Int) !=0)
 | .byt y=>y.size≤sizeLine∧k=((y.size:Int) !=0)
 | .ref p=>(∃xs,SqL K H p xs∧k=!xs.isEmpty)∨(∃xs,SqT K H p xs∧k=!xs.isEmpty)∨∃aw,H p=some (.dK aw)∧k=!aw.isEmpty
 |_=>False
theorem xb{κ:Type}{aw:List (κ×V)}{vs:List (κ×Value)}(r:KV aw vs):(!vs.isEmpty)=!aw.isEmpty:=by
 cases r<;>rfl
theorem n8{xs:List V}{aB:List Value}(r:Vals xs aB):(!aB.toArray.isEmpty)=!xs.isEmpty:=by
 cases r<;>simp
theorem lH:(sizeLine:Nat)<2 ^ 63:=by rw[sizeLine_eq];decide
theorem IA:LX X (fun x H Q=>∃k,I9 X.K x H k∧Q k H):=by
 intro pins s σ H x v Q I rx h
 obtain⟨k,e,q⟩:=h
 have hl:=lH
 have hs:sizeLine=16777216:=sizeLine_eq
 cases x with
 |non=>
  cases rx
  have e':k=false:=e
  subst e'
  exact truthy_none ⟨H,I,q⟩
 |bl b=>
  cases rx
  have e':k=b:=e
  subst e'
  exact wpAny_truthy_bool ⟨H,I,q⟩
 |int i=>
  obtain⟨t,rfl⟩:=rx
  have e':k=(i !=0):=e
  subst e'
  exact PySem.P.truthy_int ⟨H,I,q⟩
 |str y=>
  obtain⟨t,rfl⟩:=rx
  obtain⟨hy,e'⟩:y.length≤sizeLine∧k=((y.length:Int) !=0):=e
  subst e'
  exact PySem.P.truthy_str (by omega) ⟨H,I.tok _,q⟩
 |byt y=>
  obtain⟨t,rfl⟩:=rx
  obtain⟨hy,e'⟩:y.size≤sizeLine∧k=((y.size:Int) !=0):=e
  subst e'
  exact PySem.W.truthy_bytes (by omega) ⟨H,I.tok _,q⟩
 |ref p=>
  cases rx
  have e':(∃xs,SqL X.K H p xs∧k=!xs.isEmpty)∨(∃xs,SqT X.K H p xs∧k=!xs.isEmpty)∨∃aw,H p=some (.dK aw)∧k=!aw.isEmpty:=e
  rcases e' with⟨xs,hx,e'⟩ | ⟨xs,hx,e'⟩ | ⟨aw,hx,e'⟩
  ·subst e'
   obtain⟨aB,r,pl,hz⟩:=I.list hx
   have hlen:=r.length
   exact wpAny_truthy_list pl.isList (by simp only[List.size_toArray];omega) ⟨H,I.tok _,by rw[n8 r];exact q⟩
  ·subst e'
   obtain⟨aB,r,pl,hz⟩:=I.tuple hx
   have hlen:=r.length
   exact truthy_tuple pl (by simp only[List.size_toArray];omega) ⟨H,I.tok _,by rw[n8 r];exact q⟩
  ·subst e'
   obtain⟨hz,hS,vs,r,m⟩:aw.length≤sizeLine∧(p==sysModules)=false∧∃vs,KV aw vs∧s.heap.DictOf (aX X.prog X.w) p vs:=I.hok p _ hx
   have hlen:aw.length=vs.length:=Paired.length r
   exact wpAny_truthy_dict hS m (by omega) ⟨H,I.tok _,by rw[xb r];exact q⟩
 |_=>exact(show False from e).elim
theorem CT(ha:PE X a ta)(he:∀whole,isTrue a X.env whole=(do let v←whole;standAt a.pos;holding [v] (truthy v))):
 PT X a (fun σ H Q=>ta σ H fun x H'=>∃k,I9 X.K x H' k∧Q k H'):=by
 intro pins s σ H Q I h
 exact isTrue_plain (bN (ha pins s σ H _ I h) fun v s1 ⟨x,H1,I1,r1,q1⟩=>IA pins s1 σ H1 x v Q I1 r1 q1) (he _)
theorem vals1{x:V}{us:List Value}(r:Vals [x] us):∃u,us=[u]∧RelV x u:=by
 cases r with
 |cons r1 r2=>cases r2;exact⟨_,rfl,r1⟩
theorem vals2{x y:V}{us:List Value}(r:Vals [x,y] us):∃u w',us=[u,w']∧RelV x u∧RelV y w':=by
 cases r with
 |cons r1 r2=>
  cases r2 with
  |cons r3 r4=>cases r4;exact⟨_,_,rfl,r1,r3⟩
theorem AZ:CallR X (.builtin "abs") (fun xs H Q=>∃i,xs=[.int i]∧Q (.int (if i<0 then -i else i)) H):=by
 intro pins s σ H xs us Q I r h
 obtain⟨i,rfl,q⟩:=h
 obtain⟨u,rfl,t,rfl⟩:=vals1 r
 exact call_abs_int fun u tk=>⟨.int (if i<0 then -i else i),H,I.tok _,⟨_,rfl⟩,q⟩
theorem zu(hc:X.calm=true):CallR X (.builtin "max") (fun xs H Q=>∃i j,xs=[.int i, .int j]∧Q (.int (if j>i then j else i)) H):=by
 intro pins s σ H xs us Q I r h
 obtain⟨i,j,rfl,q⟩:=h
 obtain⟨u,w',rfl,⟨t,rfl⟩,⟨t',rfl⟩⟩:=vals2 r
 refine max_two_ints (I.ok.hd hc) fun h' tk k=>⟨_,H,I.kept k,?_,q⟩
 by_cases hj:j>i
 ·rw[if_pos hj,if_pos hj];exact⟨_,rfl⟩
 ·rw[if_neg hj,if_neg hj];exact⟨_,rfl⟩
theorem zv(hc:X.calm=true):CallR X (.builtin "min") (fun xs H Q=>∃i j,xs=[.int i, .int j]∧Q (.int (if j<i then j else i)) H):=by
 intro pins s σ H xs us Q I r h
 obtain⟨i,j,rfl,q⟩:=h
 obtain⟨u,w',rfl,⟨t,rfl⟩,⟨t',rfl⟩⟩:=vals2 r
 refine min_two_ints (I.ok.hd hc) fun h' tk k=>⟨_,H,I.kept k,?_,q⟩
 by_cases hj:j<i
 ·rw[if_pos hj,if_pos hj];exact⟨_,rfl⟩
 ·rw[if_neg hj,if_neg hj];exact⟨_,rfl⟩
end
structure ObjM (h:Heap) (x dx C:Addr) (mA:Str→Option Value):Prop where
 obj:h.get? x=some (PySem.W.instObj C dx)
 ns:h.Ns1 dx mA
 ne:dx≠x
theorem z0{h:Heap}{dx:Addr}{mA:Str→Option Value}(n:h.Ns1 dx mA):∃od,h.get? dx=some od∧∀name,PySem.W.lookIn name od=some (mA name):=by
 obtain⟨o,es,ep,ho,hd,hk,_,hm⟩:=n
 refine⟨o,ho,fun name=>?_⟩
 have e:=hm name
 unfold nsFind findBy at e
 rw[←Array.find?_toList] at e
 unfold PySem.W.lookIn
 rw[hd]
 dsimp only
 split
 ·rename_i y q
  rw[q] at e
  exact congrArg some e
 ·rename_i q
  rw[q] at e
  have a:es.toList.any (·.refKey)=false:=by
   rw[List.any_eq_false]
   intro y hy
   obtain⟨z,t,D9⟩:=hk y (Array.mem_toList_iff.mp hy)
   simp[DictEntry.refKey,D9]
  have a':¬es.toList.any (·.refKey)=true:=by rw[a];exact Bool.false_ne_true
  rw[if_neg a']
  exact congrArg some e
theorem ObjM.look{h:Heap}{x dx C:Addr}{mA:Str→Option Value}(I:ObjM h x dx C mA):∃od,PySem.W.InstAt h x (PySem.W.instObj C dx) C (some od)∧∀name,PySem.W.lookIn name od=some (mA name):=
 let ⟨od,ho,hl⟩:=z0 I.ns
 ⟨od,⟨I.obj,rfl,rfl,ho⟩,hl⟩
section
variable{prog:Program}{w:World}{A:Around}{E:Value→Shared→Prop}{s:Shared}{K:W.Frag}{x dx C f:Addr}{mA:Str→Option Value}{name:Str}{v:Value}
end
theorem RelO.some_of{v:V}{o:Option Value}(r:RelO (some v) o):∃u,o=some u∧RelV v u:=by
 cases o with
 |none=>exact(show False from r).elim
 |some u=>exact⟨u,rfl,r⟩
section
variable{P:Program}{w:World}{H H':Hp}{h h':Heap}{a C dx:Addr}{fs L4:List (Str×V)}
theorem Eg(hok:HOk P w H h)(e:H a=some (.ins C dx fs)):∃mA,ObjM h a dx C mA∧(∀f,RelO (fs.lookup f) (mA f))∧PySem.Within mA (fs.map (·.1))∧fs.length≤1000∧H dx=some (.own a):=by
 obtain⟨d,z,ne,ob,mA,n,r,q⟩:=(show ObjOk P w H h a (.ins C dx fs) from hok a _ e)
 exact⟨mA,⟨ob,n,ne⟩,r,q,z,d⟩
end
structure Cls (K:W.Frag) (C:Addr):Prop where
 pg:PySem.W.plainGet K C Str.empty=true
 hd:PySem.W.hasDictIn K C=true
 po:PySem.W.plainOver K C=true
 sa:PySem.W.findIn K (.ref C) "__setattr__"=some (some (.builtin "object.__setattr__"))
theorem Cls.get{K:W.Frag}{C:Addr}(c:Cls K C)(f:Str):PySem.W.plainGet K C f=true:=c.pg
structure Con (K:W.Frag) (C:Addr) (f:Str) (v:V) (u:Value):Prop where
 at_:PySem.W.findIn K (.ref C) f=some (some u)
 rel:RelV v u
 get:PySem.W.specialIn K u "__get__"=some none
 cp:PySem.W.copiedNames.contains f=false
structure Meth (K:W.Frag) (C:Addr) (m:Str) (f:Addr):Prop where
 at_:PySem.W.findIn K (.ref C) m=some (some (.ref f))
 fn:PySem.W.isFn K (.ref f)=true
 kp:PySem.W.keepIn K (.ref f)=true
section
variable{X:Cx}{pins:List (Addr×Obj)}{σ:St}{H:Hp}{s:Shared}{a C dx:Addr}{fs:List (Str×V)}{f:Str}{v:V}{A:Around}{E:Value→Shared→Prop}
end
section
variable{X:Cx}{o e value:Expr}{f:Str}{pos pos' NA:Pos}{ta tv:TE}
end
section
variable{X:Cx}{pins:List (Addr×Obj)}{σ:St}{H:Hp}{s:Shared}{A:Around}{E:Value→Shared→Prop}{Q:Value→Shared→Prop}{c:Value}{b:Bool}
inductive TyOf (K:W.Frag) (H:Hp):V→Value→Prop where
 |non:TyOf K H .non (.type "NoneType")
 |bl (x:Bool):TyOf K H (.bl x) (.type "bool")
 |int (i:Int):TyOf K H (.int i) (.type "int")
 |str (x:Str):TyOf K H (.str x) (.type "str")
 |flt (x:UInt64):TyOf K H (.flt x) (.type "float")
 |lst {a:Addr}{xs:List V}(e:H a=some (.lst xs)):TyOf K H (.ref a) (.type "list")
 |frz {a:Addr}{o:Obj}{xs:List V}(e:H a=some (.frz o (.lst xs))):TyOf K H (.ref a) (.type "list")
 |tup {a:Addr}{xs:List V}(e:H a=some (.tup xs)):TyOf K H (.ref a) (.type "tuple")
 |dK {a:Addr}{aw:List (Key×V)}(e:H a=some (.dK aw)):TyOf K H (.ref a) (.type "dict")
 |dT {a:Addr}{aw:List (List Key×V)}(e:H a=some (.dT aw)):TyOf K H (.ref a) (.type "dict")
 |ins {a C dx:Addr}{fs:List (Str×V)}(e:H a=some (.ins C dx fs)) (cl:Cls K C) (ha:PySem.W.findIn K (.ref C) "__class__"=some (some (.builtin "object.__class__")))
   (hn:PySem.W.specialIn K (.builtin "object.__class__") "__get__"=some (some (.builtin "getset_descriptor.__get__"))) (Oq:PySem.W.takesIn K (.builtin "object.__class__")=some true)
   (hm:PySem.W.mroIn K C (.type "object")=some true):TyOf K H (.ref a) (.ref C)
theorem zR{x:V}{u t:Value}(I:Inv X pins σ H s)(rx:RelV x u)(ty:TyOf X.K H x t)(e:PySem.W.kitOne X.K t c=some b)(h:∀tk,Q (.bool b) {s with toks:=tk}):
 wpAny (model X.prog X.w) A (call (.builtin "isinstance") [u,c]) Q E s:=by
 cases ty with
 |non=>cases (show u=Value.none from rx);exact PySem.W.kia_one PySem.W.kitx_none I.kIn True.intro e (fun z=>nomatch z) h
 |bl y=>cases (show u=Value.bool y from rx);exact PySem.W.kia_one PySem.W.kitx_bool I.kIn True.intro e (fun z=>nomatch z) h
 |int i=>obtain⟨t,q⟩:=(show∃t,u=Value.int i t from rx);cases q;exact PySem.W.kia_one PySem.W.kitx_int I.kIn True.intro e (fun z=>nomatch z) h
 |str y=>obtain⟨t,q⟩:=(show∃t,u=Value.str y t from rx);cases q;exact PySem.W.kia_one PySem.W.kitx_str I.kIn True.intro e (fun z=>nomatch z) h
 |flt y=>obtain⟨t,q⟩:=(show∃t,u=Value.float y t from rx);cases q;exact PySem.W.kia_one PySem.W.kitx_float I.kIn True.intro e (fun z=>nomatch z) h
 | @lst a xs ea=>
   cases (show u=Value.ref a from rx)
   obtain⟨_,_,n,_,h1⟩:=(show ObjOk X.prog X.w H s.heap a (.lst xs) from I.hok a _ ea)
   exact PySem.W.kia_one PySem.W.kitx_list I.kIn ⟨_,h1,rfl⟩ e (fun z=>nomatch z) h
 | @frz a ob xs ea=>
   cases (show u=Value.ref a from rx)
   obtain⟨_,_,_,n,_,h1⟩:=(show ObjOk X.prog X.w H s.heap a (.frz ob (.lst xs)) from I.hok a _ ea)
   exact PySem.W.kia_one PySem.W.kitx_list I.kIn ⟨_,h1,rfl⟩ e (fun z=>nomatch z) h
 | @tup a xs ea=>
   cases (show u=Value.ref a from rx)
   obtain⟨_,_,_,p⟩:=(show ObjOk X.prog X.w H s.heap a (.tup xs) from I.hok a _ ea)
   obtain⟨o,h1,h2,_⟩:=p
   exact PySem.W.kia_one PySem.W.kitx_tuple I.kIn ⟨o,h1,h2⟩ e (fun z=>nomatch z) h
 | @dK a aw ea=>
   cases (show u=Value.ref a from rx)
   obtain⟨_,_,vs,_,p⟩:=(show ObjOk X.prog X.w H s.heap a (.dK aw) from I.hok a _ ea)
   obtain⟨o,es,ep,h1,h2,_⟩:=p
   exact PySem.W.kia_one PySem.W.kitx_dict I.kIn ⟨o,h1,h2.1⟩ e (fun z=>nomatch z) h
 | @dT a aw ea=>
   cases (show u=Value.ref a from rx)
   obtain⟨_,_,xs,_,o,es,ep,h1,h2,_⟩:=(show ObjOk X.prog X.w H s.heap a (.dT aw) from I.hok a _ ea)
   exact PySem.W.kia_one PySem.W.kitx_dict I.kIn ⟨o,h1,h2.1⟩ e (fun z=>nomatch z) h
 | @ins a C dx fs ea cl ha hn Oq hm=>
   cases (show u=Value.ref a from rx)
   obtain⟨mA,O,_⟩:=Eg I.hok ea
   obtain⟨od,J,_⟩:=O.look
   exact PySem.W.kia_one (PySem.W.kitx_own (cl.get _) cl.hd ha hn Oq hm) I.kIn J e (fun z=>nomatch z) h
end
structure Room (k:Nat) (A:Around):Prop where
 hd:A.handled=none
 dp:A.depth+3*k+5<recursionLimit
 un:A.units+16*k+200<cLine
theorem Room.mono{j k:Nat}{A:Around}(r:Room k A)(h:j≤k):Room j A:=⟨r.hd,by have:=r.dp;omega,by have:=r.un;omega⟩
theorem Room.deeper{k:Nat}{A:Around}(r:Room (k+1) A)(env:Env):Room k (A.deeper env):=
 ⟨r.hd,by have:=r.dp;show A.depth+1+3*k+5<_;omega,by have:=r.un;show A.units+3+16*k+200<_;omega⟩
theorem Room.depth{k:Nat}{A:Around}(r:Room k A):A.depth<recursionLimit:=by have:=r.dp;omega
theorem Room.units{k:Nat}{A:Around}(r:Room k A):A.units+64<cLine:=by have:=r.un;omega
def Iy:TA:=fun _ H Q=>Q [] H
def Dk(ta:TE)(tr:TA):TA:=fun σ H Q=>ta σ H fun x H1=>tr σ H1 fun xs H2=>Q (x::xs) H2
section
variable{X:Cx}{e:Expr}{es:List Expr}{te:TE}{t:TA}{pos:Pos}
theorem tq:PA X [] Iy:=fun _ _ _ _ H Q I h=>Calls.spliced_nil ⟨[],H,I, .nil,h⟩
theorem tm(ha:PE X e te)(hr:PA X es t)(hs:starEach (e::es) X.env=(false,eval e X.env)::starEach es X.env:=by rfl):PA X (e::es) (Dk te t):=by
 intro pos pins s σ H Q I h
 rw[hs]
 show wpAny _ _ (spliced ((false,eval e X.env)::backTo pos (starEach es X.env))) _ _ s
 refine Calls.spliced_cons (bN (ha pins s σ H _ I h) fun u s1 ⟨x,H1,I1,r1,q1⟩=>?_)
 exact bN (hr pos pins s1 σ H1 _ I1 q1) fun us s2 ⟨xs,H2,I2,r2,q2⟩=>⟨x::xs,H2,I2, .cons r1 r2,q2⟩
def Nz(t:TA):TE:=fun σ H Q=>t σ H fun xs H1=>xs.length≤sizeLine∧∀p,H1 p=none→Q (.ref p) (upd H1 p (.tup xs))
def Nv(t:TA):TE:=fun σ H Q=>t σ H fun xs H1=>xs.length≤sizeLine∧∀p,H1 p=none→Q (.ref p) (upd H1 p (.lst xs))
theorem HV{x1}(h:PA X es t):PE X (.Tuple es x1 pos) (Nz t):=by
 intro pins s σ H Q I hq
 refine wpAny_Tuple_spliced (bN (h pos pins s σ H _ I hq) fun us s1 ⟨xs,H1,I1,r,z,q⟩=>⟨by rw[←r.length];exact z,?_⟩)
 have hf:H1 s1.heap.objs.size=none:=I1.hok.fresh (Nat.le_refl _)
 refine⟨.ref s1.heap.objs.size,upd H1 s1.heap.objs.size (.tup xs),I1.laid (t':=s1.toks) (fun b u e=>Heap.get?_push_of_some _ e) (Nat.le_refl _) ?_,rfl,q _ hf⟩
 exact⟨z,us,r,⟨_,Heap.get?_push_size _ rfl,rfl,_,rfl⟩⟩
theorem CK(h:PA X es t):PE X (.List es pos) (Nv t):=by
 intro pins s σ H Q I hq
 refine wpAny_List_spliced (bN (h pos pins s σ H _ I hq) fun us s1 ⟨xs,H1,I1,r,z,q⟩=>⟨by rw[←r.length];exact z,?_⟩)
 have hf:H1 s1.heap.objs.size=none:=I1.hok.fresh (Nat.le_refl _)
 refine⟨.ref s1.heap.objs.size,upd H1 s1.heap.objs.size (.lst xs),I1.laid (t':=s1.toks) (fun b u e=>Heap.get?_push_of_some _ e) (Nat.le_refl _) ?_,rfl,q _ hf⟩
 exact⟨z,us,0,r,Heap.get?_push_size _ rfl⟩
end
abbrev Sp:=List V→Hp→VK→XK→Prop
abbrev wG:=List Env→Hp→Shared→XK→Value→Shared→Prop
structure Env0 (P:Program) (w:World) (K:W.Frag) (mg:Str→Option Value) (base:Heap) (A:Around) (outer:List Env) (s:Shared) (H:Hp):Prop where
 frames:A.frames=some outer
 mod:Mod K mg base
 bs:∀b o,base.get? b=some o→s.heap.get? b=some o∧H b=none
 bsz:base.objs.size≤s.heap.objs.size
 funs:s.heap.FunFrames base outer
 frf:∀b∈nr outer,H b=none
 hok:HOk P w H s.heap
 bare:AllBare s.gens
def CE(outer:List Env)(P:Program)(w:World)(H:Hp)(s:Shared)(Q:VK)(u:Value)(s':Shared):Prop:=
 ∃v H',s'.os=s.os∧AllBare s'.gens∧Un (nr outer) [] H H' s.heap s'.heap∧HOk P w H' s'.heap∧RelV v u∧Q v H'
def CR(CX:wG)(outer:List Env)(P:Program)(w:World)(H:Hp)(s:Shared)(Q:VK)(E:XK)(r:Result)(s':Shared):Prop:=
 match r with
 | .ok (.ret u)=>CE outer P w H s Q u s'
 | .ok _=>False
 | .error e=>CX outer H s E e s'
structure FnOk (P:Program) (w:World) (K:W.Frag) (mg:Str→Option Value) (base:Heap) (CX:wG) (k:Nat) (f:Addr) (fd:FuncData) (ps:List Str) (sp:Sp):Prop where
 len:∀vs H Q E,sp vs H Q E→vs.length=ps.length
 run:∀(A:Around) (outer:List Env) (s:Shared) (H:Hp) (args:Args) (us:List Value) (vs:List V) (Q:VK) (E:XK),Room k A→Env0 P w K mg base A outer s H→BindsTo s fd args (ps.zip us)→Vals vs us→sp vs H Q E→
  codeAny (model P w) A (.call (.ref f) args) (CR CX outer P w H s Q E) s
theorem FnOk.mono{P:Program}{w:World}{K:W.Frag}{mg:Str→Option Value}{base:Heap}{CX:wG}{j k:Nat}{f:Addr}{fd:FuncData}{ps:List Str}{sp:Sp}(F:FnOk P w K mg base CX j f fd ps sp)(h:j≤k):
 FnOk P w K mg base CX k f fd ps sp:=⟨F.len,fun A outer s H args us vs Q E hr=>F.run A outer s H args us vs Q E (hr.mono h)⟩
section
variable{X:Cx}{pins:List (Addr×Obj)}{σ:St}{H:Hp}{s s':Shared}
theorem Inv.env0(I:Inv X pins σ H s):Env0 X.prog X.w X.K X.mg X.base X.A X.stack s H:=
 ⟨I.ok.frames,I.ok.mod,I.bs,Nat.le_trans I.ok.bsz I.sz,I.stack,I.stkFree,I.hok,I.bare⟩
theorem Inv.after{Q:VK}{u:Value}(I:Inv X pins σ H s)(h:CE X.stack X.prog X.w H s Q u s'):EP X pins σ Q u s':=by
 obtain⟨v,H',os,bare,un,hok,r,q⟩:=h
 obtain⟨hh,g,d,t,Nc⟩:=s'
 obtain rfl:Nc=s.os:=os
 exact⟨v,H',I.call (h':=hh) (g':=g) (d':=d) (t':=t) (ch:=[]) un hok bare (fun b z=>absurd z (by simp)),r,q⟩
end
def K0(sp:Sp)(FW:List V)(E:XK)(t:TA):TE:=fun σ H Q=>t σ H fun vs H1=>sp (vs++FW) H1 Q E
def Binds(K:W.Frag)(fd:FuncData)(ps:List Str)(ds:List Value):Prop:=
 ∀(s:Shared) (us:List Value),K.In s.heap→(us++ds).length=ps.length→BindsTo s fd ⟨us,[]⟩ (ps.zip (us++ds))
theorem Binds.all{K:W.Frag}{fd:FuncData}{ps:List Str}(h:∀us:List Value,us.length=ps.length→bindArgs fd ⟨us,[]⟩=pure (ps.zip us)):Binds K fd ps []:=fun s us _ hl=>by
 rw[List.append_nil] at hl⊢
 exact .of_eq (h us hl)
def Passes(CX:wG)(X:Cx)(E:XK):Prop:=∀(pins:List (Addr×Obj)) (σ:St) (H:Hp) (s:Shared) (e:Value) (s':Shared),Inv X pins σ H s→CX X.stack H s E e s'→X.xe e s'
section
variable{X:Cx}{CX:wG}{k:Nat}{f C:Addr}{fd:FuncData}{ps:List Str}{sp:Sp}{FW:List V}{ds:List Value}{E:XK}{x m:Str}{p pos apos:Pos}{e o:Expr}{es:List Expr}{ta:TE}{t:TA}
theorem Ij{pins:List (Addr×Obj)}{σ:St}{H:Hp}{s:Shared}{Q:VK}{us:List Value}{vs:List V}(F:FnOk X.prog X.w X.K X.mg X.base CX k f fd ps sp)(hr:Room k X.A)(hb:Binds X.K fd ps ds)(hd:Vals FW ds)(hx:Passes CX X E)
 (I:Inv X pins σ H s)(r:Vals vs us)(h:sp (vs++FW) H Q E):wpAny (model X.prog X.w) X.A (call (.ref f) us) (EP X pins σ Q) X.xe s:=by
 have r2:Vals (vs++FW) (us++ds):=r.append hd
 have hl:(us++ds).length=ps.length:=by rw[←r2.length];exact F.len _ _ _ _ h
 refine wpAny_call (codeAny_mono (F.run X.A X.stack s H ⟨us,[]⟩ (us++ds) (vs++FW) Q E hr I.env0 (hb s us I.kIn hl) r2 h) fun r s' hq=>?_)
 cases r with
 |error e=>exact hx pins σ H s e s' I hq
 |ok fl=>
  cases fl with
  |ret u=>exact I.after hq
  |next=>exact False.elim hq
  |brk=>exact False.elim hq
  |cont=>exact False.elim hq
theorem E3(F:FnOk X.prog X.w X.K X.mg X.base CX k f fd ps sp)(hr:Room k X.A)(hg:Gl X x)(hm:X.mg x=some (.ref f))(hk:PySem.W.keepIn X.K (.ref f)=true)(hb:Binds X.K fd ps ds)(hd:Vals FW ds)(hx:Passes CX X E)
 (ha:PA X (e::es) t)(sx:(x==("__debug__":Str))=false:=by decide)(he:starEach (e::es) X.env=(false,eval e X.env)::starEach es X.env:=by rfl)(pS:(backTo pos (starEach es X.env)).any (·.1)=false:=by rfl):
 PE X (.Call (.Name x p) (e::es) [] pos) (K0 sp FW E t):=by
 intro pins s σ H Q I h
 refine wpAny_Call_Name_kw (yK I hg hm ?_ sx)
 refine PySem.W.callWith_K (h₀:=X.base) I.ok.mod.kin hk (bN (ha pos pins s σ H _ I h) fun us s1 ⟨vs,H1,I1,r,q⟩=>⟨I1.kIn,?_⟩) he pS
 exact Ij F hr hb hd hx I1 r q
structure Mk (K:W.Frag) (C f:Addr):Prop where
 makes:PySem.W.makesIn K C=true
 init:PySem.W.findIn K (.ref C) "__init__"=some (some (.ref f))
 fn:PySem.W.isFn K (.ref f)=true
 kp:PySem.W.keepIn K (.ref C)=true
end
section
variable{X:Cx}{CX:wG}{k:Nat}{f C:Addr}{fd:FuncData}{ps ks:List Str}{sp:Sp}{E:XK}{x m:Str}{p pos apos QH:Pos}{e o:Expr}{es:List Expr}{Rj:List Keyword}{te ta:TE}{t tk:TA}{nm:Option Str}
structure KBinds (K:W.Frag) (fd:FuncData) (ps ks:List Str) (g:List Value→List Value→List Value) (gV:List V→List V→List V):Prop where
 to:∀(s:Shared) (us ws:List Value),K.In s.heap→(g us ws).length=ps.length→BindsTo s fd ⟨us,ks.zip ws⟩ (ps.zip (g us ws))
 rel:∀{vs:List V}{us:List Value}{zs:List V}{ws:List Value},Vals vs us→Vals zs ws→Vals (gV vs zs) (g us ws)
variable{g:List Value→List Value→List Value}{gV:List V→List V→List V}
end
structure FnScope (N P:List Str) (sc:Scope):Prop where
 kind:sc.kind= .function
 co:sc.isCoroutine=false
 gen:sc.isGenerator=false
 nd:N.Nodup
 pre:N.take P.length=P
 par:∀x∈P,sc.names.lookup x=some .local∨sc.names.lookup x=some .cell
 nofree:∀y∈sc.names,y.2≠ .free
theorem qA{kindOf:Str→Option NameKind}{x:Str}:∀{binds:List (Str×Value)}{m:Str→Option Value},(∀v,(x,v)∉binds)→bindL kindOf binds m x=m x
 |[],_,_=>rfl
 |(n,v)::r,m,h=>by
  unfold bindL
  rw[qA fun w hw=>h w (List.mem_cons_of_mem _ hw)]
  split
  ·have:x≠n:=by rintro rfl;exact h v List.mem_cons_self
   simp[this]
  ·rfl
theorem qy{kindOf:Str→Option NameKind}{x:Str}:∀{binds:List (Str×Value)}{m:Str→Option Value},(∀v,(x,v)∉binds)→bindC kindOf binds m x=m x
 |[],_,_=>rfl
 |(n,v)::r,m,h=>by
  unfold bindC
  rw[qy fun w hw=>h w (List.mem_cons_of_mem _ hw)]
  split
  ·rfl
  ·have:x≠n:=by rintro rfl;exact h v List.mem_cons_self
   simp[this]
theorem qz{kindOf:Str→Option NameKind}{x:Str}{v:Value}:∀{P:List Str}{vs:List Value}{i:Nat}{m:Str→Option Value},P.Nodup→P[i]? =some x→vs[i]? =some v→kindOf x=some .local→
 bindL kindOf (P.zip vs) m x=some v
 |[],_,_,_,_,h,_,_=>by simp at h
 |_::_,[],_,_,_,_,h,_=>by simp at h
 |p::P,w::vs,0,m,nd,h1,h2,hk=>by
  simp at h1 h2;subst h1;subst h2
  show bindL kindOf ((p,w)::P.zip vs) m p=_
  unfold bindL
  rw[qA fun v hv=>(List.nodup_cons.mp nd).1 (List.of_mem_zip hv).1,if_pos hk]
  simp
 |p::P,w::vs,i+1,m,nd,h1,h2,hk=>by
  show bindL kindOf ((p,w)::P.zip vs) m x=_
  unfold bindL
  exact qz (i:=i) (List.nodup_cons.mp nd).2 (by simpa using h1) (by simpa using h2) hk
theorem qx{kindOf:Str→Option NameKind}{x:Str}{v:Value}:∀{P:List Str}{vs:List Value}{i:Nat}{m:Str→Option Value},P.Nodup→P[i]? =some x→vs[i]? =some v→kindOf x≠some .local→
 bindC kindOf (P.zip vs) m x=some v
 |[],_,_,_,_,h,_,_=>by simp at h
 |_::_,[],_,_,_,_,h,_=>by simp at h
 |p::P,w::vs,0,m,nd,h1,h2,hk=>by
  simp at h1 h2;subst h1;subst h2
  show bindC kindOf ((p,w)::P.zip vs) m p=_
  unfold bindC
  rw[qy fun v hv=>(List.nodup_cons.mp nd).1 (List.of_mem_zip hv).1,if_neg hk]
  simp
 |p::P,w::vs,i+1,m,nd,h1,h2,hk=>by
  show bindC kindOf ((p,w)::P.zip vs) m x=_
  unfold bindC
  exact qx (i:=i) (List.nodup_cons.mp nd).2 (by simpa using h1) (by simpa using h2) hk
def start(N:List Str)(vs:List V):St:=vs.map some++List.replicate (N.length - vs.length) none
def dj(CX:wG)(P:Program)(w:World)(K:W.Frag)(mg:Str→Option Value)(base:Heap)(N:List Str)(qual:Str)(scope:Scope)(f:Addr)(cd:Value)(A:Around)(outer:List Env)(s:Shared)(H:Hp)(E:XK):Cx where
 prog:=P
 w:=w
 K:=K
 mg:=mg
 base:=base
 A:=A.deeper (envOfC qual scope s.heap.objs.size f cd)
 N:=N
 s₀:=s
 H₀:=H
 env:=envOfC qual scope s.heap.objs.size f cd
 outer:=outer
 stack:=envOfC qual scope s.heap.objs.size f cd::outer
 ex:=[]
 calm:=true
 fn:=fun _=>true
 pn:=[]
 xe:=fun e s'=>wpAny (model P w) (A.deeper (envOfC qual scope s.heap.objs.size f cd)) (leaving (envOfC qual scope s.heap.objs.size f cd) e) (fun _ KS=>CX outer H s E e KS) (fun e' KS=>CX outer H s E e' KS) s'
theorem uE{sc:Scope}{n:Nat}{x:Str}(h:sc.names.lookup x=some .cell):∃c,(cellsFrom n sc.names []).lookup x=some c:=by
 have q:=PySem.W.cellsFrom_some sc.names n [] (.inl h)
 exact Option.isSome_iff_exists.mp q
theorem zP{CX:wG}{P:Program}{w:World}{K:W.Frag}{mg:Str→Option Value}{base:Heap}{N ps:List Str}{qual:Str}{scope:Scope}{f:Addr}{cd:Value}{A:Around}{outer:List Env}{s s1:Shared}{H:Hp}{E:XK}{us:List Value}{vs:List V}
 (S:FnScope N ps scope)(hd:A.handled=none)(e0:Env0 P w K mg base A outer s H)(hl:vs.length=ps.length)(r:Vals vs us)
 (x:InCallC s s.heap.objs.size (bindL (envOfC qual scope s.heap.objs.size f cd).kindOf (ps.zip us) fun _=>none) (cellsFrom (s.heap.objs.size+1) scope.names []) (bindC (envOfC qual scope s.heap.objs.size f cd).kindOf (ps.zip us) fun _=>none) s1):
 Inv (dj CX P w K mg base N qual scope f cd A outer s H E) [] (start N vs) H s1:=by
 have pS:ps.length≤N.length:=by have:=congrArg List.length S.pre;rw[List.length_take] at this;omega
 obtain⟨h1,tk,rfl,hk⟩:=x.done
 have Ke:∀b:Addr,b∉(dj CX P w K mg base N qual scope f cd A outer s H E).ex:=fun b z=>absurd (show b∈([]:List Addr) from z) (by simp)
 refine⟨⟨e0.mod,S.kind,rfl,rfl,Nat.le_refl _,fun y z c h1 h2=>?_,fun y hy=>?_,fun y c _ h=>?_,fun _=>hd,Around.frames_deeper e0.frames, .inr ⟨rfl,rfl⟩,fun b z=>absurd z (Ke b),e0.bs,e0.bsz,fun b _ _=>Ke b,fun b z=>absurd z (Ke b),e0.funs,e0.frf⟩,
  rfl,e0.bare,Un.kept hk,⟨_,x.toInCall.ns,fun i y v h1 h2 h3=>?_⟩,fun y c h=>⟨_,x.cell y c h⟩,e0.hok.fresh (Nat.le_refl _),fun y c h=>?_,fun p hp=>absurd (show p∈([]:List (Addr×Obj)) from hp) (by simp),e0.hok.kept hk,?_⟩
 ·exact name_of_addr x.apart (PySem.mem_of_lookup h1) (PySem.mem_of_lookup h2)
 ·have hy:scope.names.lookup y=some .cell∨scope.names.lookup y=some .free:=hy
  rcases hy with hy | hy
  ·exact uE hy
  ·exact absurd rfl (S.nofree _ (PySem.mem_of_lookup hy))
 ·exact Nat.le_of_lt (x.above y c (PySem.mem_of_lookup h))
 ·have hi:i<vs.length:=by
   unfold start at h2
   by_cases hi:i<vs.length
   ·exact hi
   ·rw[List.getElem?_append_right (by simpa using hi)] at h2
    rw[List.getElem?_replicate] at h2
    split at h2<;>cases h2
  have ha:vs[i]? =some v:=by
   unfold start at h2
   rw[List.getElem?_append_left (by simpa using hi),List.getElem?_map] at h2
   cases e:vs[i]? with
   |none=>rw[e] at h2;cases h2
   |some a=>rw[e] at h2;cases h2;rfl
  obtain⟨u,hu,rv⟩:=r.get ha
  have hp:ps[i]? =some y:=by
   rw[←S.pre,List.getElem?_take_of_lt (by omega)];exact h1
  have OF:ps.Nodup:=by rw[←S.pre];exact S.nd.sublist (List.take_sublist _ _)
  refine⟨u,rv,?_⟩
  rcases S.par y (List.mem_of_getElem? hp) with k | k
  ·exact .inl ⟨k,qz OF hp hu k⟩
  ·obtain⟨c,e⟩:=uE (n:=s.heap.objs.size+1) k
   refine .inr ⟨.inl k,c,e,?_⟩
   have q:=x.cell y c e
   rw[qx OF hp hu (by show scope.names.lookup y≠_;rw[k];decide)] at q
   exact q
 ·exact e0.hok.fresh (Nat.le_of_lt (x.above y c (PySem.mem_of_lookup h)))
 ·unfold start
  show _=N.length
  rw[List.length_append,List.length_map,List.length_replicate]
  omega
theorem FY{CX:wG}{P:Program}{w:World}{K:W.Frag}{mg:Str→Option Value}{base:Heap}{k:Nat}{f:Addr}{name qual:Str}{params:Arguments}{body:List Stmt}{scope:Scope}{dV kV doc pm bc ct oc:Value}{an od:Option Addr}
 {EO:Array (Option Value)}{N ps:List Str}{sp:Sp}(lk:K.lookup f=some ⟨oc,od, .func (PySem.W.fnOf name qual params body scope dV kV doc pm an bc ct),EO⟩)(wC:PySem.W.codeIn K bc qual=true)(S:FnScope N ps scope)
 (len:∀vs H Q E,sp vs H Q E→vs.length=ps.length)
 (nZ:∀(A:Around) (outer:List Env) (s:Shared) (H:Hp) (vs:List V) (Q:VK) (E:XK),Room k (A.deeper (envOfC qual scope s.heap.objs.size f bc))→sp vs H Q E→
  ∃t,PSs (dj CX P w K mg base N qual scope f bc A outer s H E) body t∧t {nx:=fun _ H'=>Q .non H',rt:=Q} (start N vs) H):
 FnOk P w K mg base CX (k+1) f (PySem.W.fnOf name qual params body scope dV kV doc pm an bc ct) ps sp:=by
 refine⟨len,fun A outer s H args us vs Q E hr e0 hb r DJ=>?_⟩
 have hl:=len _ _ _ _ DJ
 have KX:K.In s.heap:=e0.mod.kin.keeps fun b o e=>(e0.bs b o e).1
 have lim:s.heap.NoLimit:=e0.mod.nolimit.keeps fun b o e=>(e0.bs b o e).1
 have JK:∀y∈ps.zip us,scope.names.lookup y.1=some .local∨(scope.names.lookup y.1=some .cell∧((cellsFrom (s.heap.objs.size+1) scope.names []).lookup y.1).isSome=true):=fun⟨n,v⟩ hy=>by
  rcases S.par n (List.of_mem_zip hy).1 with q | q
  ·exact .inl q
  ·exact .inr ⟨q,PySem.W.cellsFrom_some _ _ _ (.inl q)⟩
 refine codeAny_call_function hr.depth (KX _ _ lk) rfl S.co S.gen rfl (PySem.W.codeRec_of KX wC) (hb _ _ _ _ ?_)
 refine wpAny_newFunctionEnv_cells S.kind JK fun env he s1 x=>?_
 subst he
 refine⟨lim.keeps x.toInCall.keep,codeAny_func ?_⟩
 obtain⟨t,ht,hq⟩:=nZ A outer s H vs Q E (hr.deeper _) DJ
 have I:Inv (dj CX P w K mg base N qual scope f bc A outer s H E) [] (start N vs) H s1:=zP S hr.hd e0 hl r x
 refine wpAny_mono (ht [] s1 (start N vs) H _ I hq) (fun fl s' hs=>?_) fun e s' hs=>hs
 have fin:∀{σ':St}{H':Hp}{v:V}{u:Value},Inv (dj CX P w K mg base N qual scope f bc A outer s H E) [] σ' H' s'→RelV v u→Q v H'→CE outer P w H s Q u s':=
  fun {σ' H' v u} J rv q=>⟨v,H',J.os,J.bare,J.base,J.hok,rv,q⟩
 cases fl with
 |ret u=>
  obtain⟨v,σ',H',J,rv,q⟩:=hs
  exact fin J rv q
 |next=>
  obtain⟨σ',H',J,q⟩:=hs
  exact fin (v:=V.non) (u:=Value.none) J rfl q
 |brk=>
  obtain⟨_,_,_,q⟩:=hs
  exact False.elim q
 |cont=>
  obtain⟨_,_,_,q⟩:=hs
  exact False.elim q
section
variable{X:Cx}{x:Str}{p pos:Pos}{e:Expr}{es:List Expr}{t:TA}{id T:String}{r:List V→Hp→VK→Prop}
def Np(r:List V→Hp→VK→Prop)(t:TA):TE:=fun σ H Q=>t σ H fun vs H1=>r vs H1 Q
theorem CD(hc:CallR X (.builtin id) r)(hg:Gl X x)(hm:X.mg x=none)(hv:bootBuiltins x=some (.builtin id))(ha:PA X (e::es) t)(hn:x≠"__name__":=by decide)(sx:(x==("__debug__":Str))=false:=by decide)
 (he:starEach (e::es) X.env=(false,eval e X.env)::starEach es X.env:=by rfl)(pS:(backTo pos (starEach es X.env)).any (·.1)=false:=by rfl):PE X (.Call (.Name x p) (e::es) [] pos) (Np r t):=by
 intro pins s σ H Q I h
 refine wpAny_Call_Name_kw (gQ I hg hm hv ?_ hn sx)
 exact PyProof.Rows.callWith_builtin1 (bN (ha pos pins s σ H _ I h) fun us s1 ⟨vs,H1,I1,r1,q1⟩=>hc pins s1 σ H1 vs us Q I1 r1 q1) he pS
theorem An(hc:CallR X (.type T) r)(hg:Gl X x)(hm:X.mg x=none)(hv:bootBuiltins x=some (.type T))(ha:PA X (e::es) t)(hn:x≠"__name__":=by decide)(sx:(x==("__debug__":Str))=false:=by decide)
 (he:starEach (e::es) X.env=(false,eval e X.env)::starEach es X.env:=by rfl)(pS:(backTo pos (starEach es X.env)).any (·.1)=false:=by rfl):PE X (.Call (.Name x p) (e::es) [] pos) (Np r t):=by
 intro pins s σ H Q I h
 refine wpAny_Call_Name_kw (gQ I hg hm hv ?_ hn sx)
 exact PyProof.Rows.callWith_type1 (bN (ha pos pins s σ H _ I h) fun us s1 ⟨vs,H1,I1,r1,q1⟩=>hc pins s1 σ H1 vs us Q I1 r1 q1) he pS
end
end L2
namespace HT
open PySem PyProof.Rows
def lexLt:List Int→List Int→Bool
 |[],[]=>false
 |[],_::_=>true
 |_::_,[]=>false
 |x::xs,y::ys=>if x=y then lexLt xs ys else decide (x<y)
theorem lexLt_cons(x y:Int)(xs ys:List Int):lexLt (x::xs) (y::ys)=if x=y then lexLt xs ys else decide (x<y):=rfl
theorem lexLt_nil_nil:lexLt [] []=false:=rfl
theorem lexLt_nil_cons(y:Int)(ys:List Int):lexLt [] (y::ys)=true:=rfl
theorem lexLt_cons_nil(x:Int)(xs:List Int):lexLt (x::xs) []=false:=rfl
theorem eqAt_int(A:Around)(s:Shared)(a:Int)(t:Tok)(c:Int)(u:Tok):∃e,SeqAt.EqAt A s (.int a t) (.int c u) e∧(e=true↔a=c):=
 ⟨(a==c),SeqAt.EqAt.int_int a t c u,by simp⟩
theorem rcLt_int(A:Around)(s:Shared)(a:Int)(t:Tok)(c:Int)(u:Tok)(prog:Program)(w:World)(E:Value→Shared→Prop)(Q:Value→Shared→Prop)(h:Q (.bool (decide (a<c))) s):
 wpAny (model prog w) A (richCompare .Lt (.int a t) (.int c u)) Q E s:=
 (PyProof.Rows.lt_int h:wpAny (model prog w) A (compareOp .Lt (.int a t) (.int c u)) Q E s)
section
open PySem.SeqAt
open PySem.AutoSeq1 (wpAny_loadPart')
open PySem.MeetsSeq PySem.MeetsSeq2 PySem.MeetsSeq3
theorem tuple_lt_ints(l b:Addr)(items gj:Array Value)(n n2:Nat)(dd zD:Option Addr)(sl Gv:Array (Option Value))(ns ms:List Int)(hi:IntsAre items.toList ns)(hj:IntsAre gj.toList ms):
 Meets (Builtin.«tuple.__lt__» ⟨[.ref l, .ref b],[]⟩)
  (fun _ R s=>s.heap.get? l=some {cls:= .type "tuple",dict:=dd,data:= .seq items n,slots:=sl}∧s.heap.get? b=some {cls:= .type "tuple",dict:=zD,data:= .seq gj n2,slots:=Gv}∧
   R (.ok (.ret (.bool (lexLt ns ms)))) s):=
 .of_wp fun prog w A R s h=>by
  obtain⟨hp,g,d,tk,os⟩:=s;obtain⟨hl,hb,h⟩:=h
  have f2:=AutoSeq1.sub_tuple_tuple
  have z1:items.size=ns.length:=by rw[←hi.length];simp
  have z2:gj.size=ms.length:=by rw[←hj.length];simp
  wp_walk using wpAny_loadPart' hl,wpAny_loadPart' hb,wpAny_forIn_list _ (fun rest b s'=>b.1=none∧s'=⟨hp,g,d,tk,os⟩∧∃(vs ws:List Value) (IL IK:List Int),rest=vs.zip ws∧
   IntsAre vs IL∧IntsAre ws IK∧IL.length+gj.size=IK.length+items.size∧R (.ok (.ret (.bool (lexLt IL IK)))) ⟨hp,g,d,tk,os⟩) _
  case turn=>
   rintro⟨y,x⟩ rest b s' ⟨D6,rfl,vs,ws,IL,IK,hz,MP,LC,hlen,hR⟩
   cases MP with
   |nil=>rw[List.zip_nil_left] at hz;cases hz
   |cons a t MQ=>
    cases LC with
    |nil=>rw[List.zip_nil_right] at hz;cases hz
    |cons c u MS=>
     rw[List.zip_cons_cons] at hz
     injection hz with Qz JT
     injection Qz with hy hx
     subst hy hx
     rw[lexLt_cons] at hR
     simp only[List.length_cons] at hlen
     obtain⟨e,he,JI⟩:=eqAt_int A.in1 ⟨hp,g,d,tk,os⟩ a t c u
     refine wpAny_bind (he prog w _ _ ?_)
     cases e with
     |true=>
      rw[if_pos (JI.mp rfl)] at hR
      wp_walk
      exact⟨rfl,rfl,_,_,_,_,JT,MQ,MS,by omega,hR⟩
     |false=>
      rw[if_neg (fun q=>absurd (JI.mpr q) Bool.false_ne_true)] at hR
      have Qi:=rcLt_int A.in1 ⟨hp,g,d,tk,os⟩ a t c u prog w
      wp_walk using Qi
      exact⟨_,rfl,by simpa using hR⟩
  case fin=>
   rintro⟨b1,b2⟩ s' ⟨D6,rfl,vs,ws,IL,IK,hz,MP,LC,hlen,hR⟩
   simp only at D6
   subst D6
   have hv:lexLt IL IK=decide (items.size<gj.size):=by
    cases MP with
    |nil=>
     cases LC with
     |nil=>
      simp only[List.length_nil] at hlen
      rw[lexLt_nil_nil]
      exact(decide_eq_false (by omega)).symm
     |cons c u hw=>
      simp only[List.length_nil,List.length_cons] at hlen
      rw[lexLt_nil_cons]
      exact(decide_eq_true (by omega)).symm
    |cons a t hv=>
     cases LC with
     |nil=>
      simp only[List.length_nil,List.length_cons] at hlen
      rw[lexLt_cons_nil]
      exact(decide_eq_false (by omega)).symm
     |cons c u hw=>
      rw[List.zip_cons_cons] at hz
      cases hz
   rw[hv] at hR
   wp_walk
   exact⟨_,rfl,by simpa[Builtin.Tuple.tupleCompareSizes] using hR⟩
  case h=>
   exact⟨rfl,rfl,items.toList,gj.toList,ns,ms,rfl,hi,hj,by omega,h⟩
end
section
variable{prog:Program}{w:World}{A:Around}{E:Value→Shared→Prop}{s:Shared}
theorem lt_tupInts{l b:Addr}{items gj:Array Value}{ns ms:List Int}{Q:Value→Shared→Prop}(hl:IsTup s.heap l items)(hb:IsTup s.heap b gj)(hi:IntsAre items.toList ns)(hj:IntsAre gj.toList ms)
 (hu:A.units<cLine)(h:Q (.bool (lexLt ns ms)) s):wpAny (model prog w) A (compareOp .Lt (.ref l) (.ref b)) Q E s:=by
 obtain⟨⟨cls,dd,data,sl⟩,ho,hc,n,hd⟩:=id hl
 obtain⟨⟨Jd,zD,data2,Gv⟩,DI,DG,n2,hd2⟩:=id hb
 simp only at hc hd DG hd2
 subst hc hd DG hd2
 exact richCompare_meets_room (op:= .Lt) ⟨_,ho,rfl⟩ ⟨_,DI,rfl⟩ PySem.F.slot_tuple_lt PySem.F.entry_tuple_lt (PySem.F.args_tuple_lt_2 _ _) (tuple_lt_ints l b items gj n n2 dd zD sl Gv ns ms hi hj)
  ⟨ho,DI,show Value.bool (lexLt ns ms)≠Value.notImplemented∧Q (.bool (lexLt ns ms)) s from⟨(fun x=>nomatch x),h⟩⟩ hu
theorem cat_tup{t b:Addr}{vs ws:List Value}{Q:Value→Shared→Prop}(ht:IsTup s.heap t vs.toArray)(hb:IsTup s.heap b ws.toArray)(hv:vs≠[])
 (h1:ws=[]→Q (.ref t) s)(h2:ws≠[]→Q (.ref s.heap.objs.size) {s with heap:=s.heap.push {cls:= .type "tuple",data:= .seq (vs++ws).toArray} })
 (hsz:vs.length+ws.length≤sizeLine):wpAny (model prog w) A (binaryOp .Add (.ref t) (.ref b)) Q E s:=by
 obtain⟨⟨cls,dd,data,sl⟩,ho,hc,n,hd⟩:=id ht
 obtain⟨⟨Jd,zD,data2,Gv⟩,DI,DG,n2,hd2⟩:=id hb
 simp only at hc hd DG hd2
 subst hc hd DG hd2
 have e:vs.toArray++ws.toArray=(vs++ws).toArray:=by simp
 by_cases hw:ws=[]
 ·exact concat_meets ⟨_,ho,rfl⟩ ⟨_,DI,rfl⟩ noFill_tuple_add seq_tuple_add PySem.F.slot_tuple_add PySem.F.entry_tuple_add (PySem.F.args_tuple_add_2 _ _)
   (tuple_addW1 t b vs.toArray ws.toArray n n2 dd zD sl Gv (by simpa using hv) (by simp[hw])) ⟨ho,DI,h1 hw⟩
 ·refine concat_meets ⟨_,ho,rfl⟩ ⟨_,DI,rfl⟩ noFill_tuple_add seq_tuple_add PySem.F.slot_tuple_add PySem.F.entry_tuple_add (PySem.F.args_tuple_add_2 _ _)
   (tuple_addW2 t b vs.toArray ws.toArray n n2 dd zD sl Gv (by simpa using hv) (by simpa using hw) (by rw[List.size_toArray,List.size_toArray];exact hsz)) ⟨ho,DI,?_⟩
  rw[e]
  exact h2 hw
def sIx(n d:Nat):Option Int→Nat
 |none=>d
 |some v=>if v<0 then(v+(n:Int)).toNat else min v.toNat n
theorem sIx_none(n d:Nat):sIx n d none=d:=rfl
theorem sIx_nat(n d k:Nat):sIx n d (some (k:Int))=min k n:=by
 show (if (k:Int)<0 then((k:Int)+(n:Int)).toNat else min (k:Int).toNat n)=min k n
 rw[if_neg (by omega),Int.toNat_natCast]
theorem sIx_le(n d:Nat)(hd:d≤n)(o:Option Int):sIx n d o≤n:=by
 cases o with
 |none=>exact hd
 |some v=>
  show (if v<0 then(v+(n:Int)).toNat else min v.toNat n)≤n
  by_cases hv:v<0
  ·rw[if_pos hv];omega
  ·rw[if_neg hv];exact Nat.min_le_right _ _
theorem clip_eq(v:Int)(n d:Nat):(if v<0 then max (v+(n:Int)) 0 else min v (n:Int))=((sIx n d (some v):Nat):Int):=by
 show (if v<0 then max (v+(n:Int)) 0 else min v (n:Int))=(((if v<0 then(v+(n:Int)).toNat else min v.toNat n):Nat):Int)
 by_cases hv:v<0
 ·simp only[if_pos hv];omega
 ·simp only[if_neg hv];omega
theorem adjust_gen(lo hi:Option Int)(n:Nat):Builtin.Slice.sliceAdjust lo hi 1 (n:Int)=(((sIx n 0 lo:Nat):Int),((sIx n n hi:Nat):Int)):=by
 have h1:¬((1:Int)<0):=by omega
 unfold Builtin.Slice.sliceAdjust
 simp only[h1,if_false]
 refine Prod.ext ?_ ?_
 ·cases lo with
  |none=>rfl
  |some v=>exact clip_eq v n 0
 ·cases hi with
  |none=>rfl
  |some v=>exact clip_eq v n n
theorem places_gen(i j:Nat):Builtin.Slice.slicePlaces (i:Int) (j:Int) 1=j - i:=by
 unfold Builtin.Slice.slicePlaces
 have h1:(1:Int)>0:=by omega
 simp only[h1,if_true,Int.ediv_one]
 split<;>omega
theorem slicePart_{v:Value}{o:Option Int}{Q:Option Int→Shared→Prop}(p:IsPart v o)(h:Q o s):wpAny (model prog w) A (Builtin.Slice.slicePartIndex v) Q E s:=by
 cases p with
 |none=>exact slicePart_none h
 |int i t=>exact slicePart_int h
theorem sliceApplied_gen{sl:Addr}{vl vu:Value}{lo hi:Option Int}{n:Nat}{Q:Int×Int×Nat→Shared→Prop}(hs:s.heap.IsSliceOf sl vl vu .none)(pl:IsPart vl lo)(pu:IsPart vu hi)
 (h:Q (((sIx n 0 lo:Nat):Int),1,sIx n n hi - sIx n 0 lo) s):wpAny (model prog w) A (Builtin.Slice.sliceApplied (.ref sl) (pure (n:Int))) Q E s:=by
 obtain⟨os,BD,Lp,F8⟩:=id hs
 unfold Builtin.Slice.sliceApplied Builtin.Slice.sliceFields
 refine wpAny_bind (wpAny_bind (wpAny_field BD F8 (x:=vl) rfl (wpAny_bind (wpAny_field BD F8 (x:=vu) rfl (wpAny_bind (wpAny_field BD F8 (x:= .none) rfl (wpAny_pure ?_)))))))
 refine wpAny_bind (slicePart_none ?_)
 show wpAny _ _ (if ((1:Int)==0)=true then _ else _) _ _ s
 rw[if_neg (by decide)]
 refine wpAny_bind (slicePart_ pl (wpAny_bind (slicePart_ pu (wpAny_bind (wpAny_pure ?_)))))
 show wpAny _ _ (match Builtin.Slice.sliceAdjust lo hi 1 (n:Int) with | (lo,hi)=>pure (lo,(1:Int),Builtin.Slice.slicePlaces lo hi 1)) _ _ s
 rw[adjust_gen lo hi n]
 show wpAny _ _ (pure (((sIx n 0 lo:Nat):Int),(1:Int),Builtin.Slice.slicePlaces ((sIx n 0 lo:Nat):Int) ((sIx n n hi:Nat):Int) 1)) _ _ s
 rw[places_gen]
 exact wpAny_pure h
theorem pick_gen(xs:Array Value)(i k:Nat):((List.range k).filterMap fun(m:Nat)=>xs[((i:Int)+(m:Int)*1).toNat]?).toArray=((xs.toList.drop i).take k).toArray:=by
 have e:(fun (m:Nat)=>xs[((i:Int)+(m:Int)*1).toNat]?)=fun m=>xs[i+m]? :=by
  funext m
  have:((i:Int)+(m:Int)*1).toNat=i+m:=by omega
  rw[this]
 rw[e]
 have:=pick_run xs i k
 rw[List.filterMap_map] at this
 have e2:((fun x=>xs[x]?)∘fun x=>i+x)=fun m=>xs[i+m]? :=rfl
 rw[e2] at this
 rw[this]
theorem getItem_tuple_cut{t sl:Addr}{items:Array Value}{vl vu:Value}{lo hi:Option Int}{Q:Value→Shared→Prop}(ht:IsTup s.heap t items)(hs:s.heap.IsSliceOf sl vl vu .none)(pl:IsPart vl lo)(pu:IsPart vu hi)
 (hw:¬(sIx items.size 0 lo=0∧sIx items.size items.size hi=items.size))
 (h:Q (.ref s.heap.objs.size) {s with heap:=s.heap.push {cls:= .type "tuple",data:= .seq ((items.toList.drop (sIx items.size 0 lo)).take (sIx items.size items.size hi - sIx items.size 0 lo)).toArray} })
 (hsz:items.size≤sizeLine):wpAny (model prog w) A (getItem (.ref t) (.ref sl)) Q E s:=by
 have yD:sizeOk (.seq ((items.toList.drop (sIx items.size 0 lo)).take (sIx items.size items.size hi - sIx items.size 0 lo)).toArray):=by
  show ((items.toList.drop (sIx items.size 0 lo)).take (sIx items.size items.size hi - sIx items.size 0 lo)).toArray.size≤sizeLine
  rw[List.size_toArray,List.length_take,List.length_drop,Array.length_toList]
  omega
 have hj:sIx items.size items.size hi≤items.size:=sIx_le _ _ (Nat.le_refl _) hi
 obtain⟨os,BD,Lp,F8⟩:=id hs
 have Mb:s.TypeIs (.ref sl) "slice":=⟨os,BD,Lp⟩
 unfold getItem
 try with_reducible refine wpAny_holding ?_
 first | refine wpAny_bind (wpAny_pure ?_) | skip
 refine wpAny_bind (wpAny_sequenceKey ht.typeIs (by decide) ?_)
 refine wpAny_bind (wpAny_callSpecial?_slot (name:=Str.ofString "__getitem__") ht.typeIs PyProof.Rows.slot_tuple_getitem
  (wpAny_call_entry PyProof.Rows.slot_tuple_getitem ht.typeIs entry_tuple_getitem ?_ (args_tuple_getitem _ _)))
 show wpAny _ _ (Builtin.Tuple.tupleItemsOf (.ref t)>>=_) _ _ s
 refine wpAny_bind (tupleItemsOf_ ht ?_)
 refine wpAny_bind (wpAny_typeOf Mb ?_)
 rw[if_pos (by decide)]
 refine wpAny_bind (sliceApplied_gen hs pl pu ?_)
 have w6:¬((((sIx items.size 0 lo:Nat):Int)==0&&(1:Int)==1&&(sIx items.size items.size hi - sIx items.size 0 lo)==items.size)=true):=by
  intro q
  rw[Bool.and_eq_true,Bool.and_eq_true] at q
  have q1:((sIx items.size 0 lo:Nat):Int)=0:=eq_of_beq q.1.1
  have q2:sIx items.size items.size hi - sIx items.size 0 lo=items.size:=eq_of_beq q.2
  exact hw ⟨by omega,by omega⟩
 show wpAny _ _ (if (((sIx items.size 0 lo:Nat):Int)==0&&(1:Int)==1&&(sIx items.size items.size hi - sIx items.size 0 lo)==items.size)=true then _ else _) _ _ s
 rw[if_neg w6,pick_gen]
 first
  |exact wpAny_bind (m:=Builtin.Tuple.tupleExact _) (wpAny_newObj_type (wpAny_pure ⟨_,rfl,wpAny_pure h⟩) yD)
  |exact wpAny_bind (m:=Builtin.Tuple.tupleExact _) (wpAny_newObj_type (wpAny_bind (wpAny_pure (wpAny_pure ⟨_,rfl,wpAny_pure h⟩))) yD)
  |exact wpAny_bind (wpAny_bind (m:=Builtin.Tuple.tupleExact _) (wpAny_newObj_type (wpAny_pure (wpAny_pure ⟨_,rfl,wpAny_pure h⟩)) yD))
  |exact wpAny_bind (wpAny_bind (m:=Builtin.Tuple.tupleExact _) (wpAny_newObj_type (wpAny_pure ⟨_,rfl,wpAny_pure h⟩) yD))
end
end HT
namespace L2
open PySem PySem.Spec PyProof.Rows
abbrev TO:=St→Hp→(Option Int→Hp→Prop)→Prop
def PO(X:Cx)(e:Option Expr)(t:TO):Prop:=
 ∀(pins:List (Addr×Obj)) (s:Shared) (σ:St) (H:Hp) (Q:Option Int→Hp→Prop),Inv X pins σ H s→t σ H Q→
  wpAny (model X.prog X.w) X.A (evalPart e X.env) (fun u s'=>∃o H',Inv X pins σ H' s'∧IsPart u o∧Q o H') X.xe s
def FH:TO:=fun _ H Q=>Q none H
def K6(t:TE):TO:=fun σ H Q=>t σ H fun x H1=>∃i,x= .int i∧Q (some i) H1
theorem intsAre_of{ns:List Int}:∀{us:List Value},Vals (ns.map V.int) us→IntsAre us ns:=by
 induction ns with
 |nil=>intro us r;rw[List.map_nil] at r;cases r;exact .nil
 |cons n ns ih=>
  intro us r
  rw[List.map_cons] at r
  cases r with
  |cons r1 r2=>
   obtain⟨t,e⟩:=r1
   subst e
   exact .cons n t (ih r2)
section
variable{X:Cx}{e:Expr}{te:TE}{lo hi:Option Expr}{tl th:TO}{pos p2:Pos}
theorem E8:PO X none FH:=by
 intro pins s σ H Q I h
 rw[evalPart_none]
 exact wpAny_pure ⟨none,H,I, .none,h⟩
theorem E9(h:PE X e te):PO X (some e) (K6 te):=by
 intro pins s σ H Q I hw
 rw[evalPart_some]
 refine bN (h pins s σ H _ I hw) fun u s1 ⟨x,H1,I1,r1,q1⟩=>?_
 obtain⟨i,rfl,q⟩:=q1
 obtain⟨t,rfl⟩:=r1
 exact⟨some i,H1,I1, .int i t,q⟩
def SlR(X:Cx)(r:V→Option Int→Option Int→Hp→VK→Prop):Prop:=
 ∀(pins:List (Addr×Obj)) (s:Shared) (σ:St) (H:Hp) (x:V) (v vl vu:Value) (lo hi:Option Int) (sl:Addr) (Q:VK),Inv X pins σ H s→RelV x v→s.heap.IsSliceOf sl vl vu .none→IsPart vl lo→IsPart vu hi→r x lo hi H Q→
  ∃T id,typeLookup (.type T) "__getitem__"=pure (some (.builtin id))∧s.TypeIs v T∧wpAny (model X.prog X.w) X.A (getItem v (.ref sl)) (EP X pins σ Q) X.xe s
theorem SlR.or{r r':V→Option Int→Option Int→Hp→VK→Prop}(h:SlR X r)(h':SlR X r'):SlR X (fun x lo hi H Q=>r x lo hi H Q∨r' x lo hi H Q):=by
 intro pins s σ H x v vl vu lo hi sl Q I rx hs pl pu q
 rcases q with q | q
 ·exact h pins s σ H x v vl vu lo hi sl Q I rx hs pl pu q
 ·exact h' pins s σ H x v vl vu lo hi sl Q I rx hs pl pu q
def QV(r:V→Option Int→Option Int→Hp→VK→Prop)(te:TE)(tl th:TO):TE:=fun σ H Q=>te σ H fun x H1=>tl σ H1 fun l H2=>th σ H2 fun u H3=>r x l u H3 Q
theorem CL{r:V→Option Int→Option Int→Hp→VK→Prop}(hr:SlR X r)(he:PE X e te)(hl:PO X lo tl)(hu:PO X hi th):PE X (.Subscript e (.Slice lo hi none p2) pos) (QV r te tl th):=by
 intro pins s σ H Q I h
 refine Subscript_ (bN (he pins s σ H _ I h) fun v s1 ⟨x,H1,I1,r1,q1⟩=>?_)
 refine wpAny_Slice (bN (hl pins s1 σ H1 _ I1 q1) fun vl s2 ⟨l,H2,I2,pl,q2⟩=>bN (hu pins s2 σ H2 _ I2 q2) fun vu s3 ⟨u,H3,I3,pu,q3⟩=>?_)
 rw[evalPart_none]
 refine wpAny_pure ?_
 have I4:Inv X pins σ H3 {s3 with heap:=s3.heap.push {cls:= .type "slice",data:= .fields #[vl,vu, .none]} }:=I3.kept (t':=s3.toks) fun b ob q=>Heap.get?_push_of_some _ q
 obtain⟨T,id,hT,ht,hg⟩:=hr pins {s3 with heap:=s3.heap.push {cls:= .type "slice",data:= .fields #[vl,vu, .none]} } σ H3 x v vl vu l u s3.heap.objs.size Q I4 r1 (Heap.IsSliceOf.new ..) pl pu q3
 show wpAny (model X.prog X.w) X.A (subscriptTail e (.Slice lo hi none p2) v (.ref s3.heap.objs.size)) (EP X pins σ Q) X.xe {s3 with heap:=s3.heap.push {cls:= .type "slice",data:= .fields #[vl,vu, .none]} }
 exact tail_any (ops:=[.ref s3.heap.objs.size,v]) ht hT hg (by with_unfolding_all rfl)
def uK(xs:List V)(lo hi:Option Int):List V:=(xs.drop (HT.sIx xs.length 0 lo)).take (HT.sIx xs.length xs.length hi - HT.sIx xs.length 0 lo)
theorem l8(xs:List V)(lo hi:Option Int):(uK xs lo hi).length≤xs.length:=by
 unfold uK
 rw[List.length_take,List.length_drop]
 omega
def Ni(K:W.Frag):V→Option Int→Option Int→Hp→VK→Prop:=fun x lo hi H Q=>∃a xs,x= .ref a∧SqT K H a xs∧
 ¬(HT.sIx xs.length 0 lo=0∧HT.sIx xs.length xs.length hi=xs.length)∧∀p,H p=none→Q (.ref p) (upd H p (.tup (uK xs lo hi)))
theorem Iq:SlR X (Ni X.K):=by
 intro pins s σ H x v vl vu lo hi sl Q I rx hs pl pu h
 obtain⟨a,xs,rfl,hx,hw,q⟩:=h
 cases rx
 obtain⟨aB,r,ht,hz⟩:=I.tuple hx
 have hlen:aB.toArray.size=xs.length:=by rw[List.size_toArray];exact r.length.symm
 refine⟨"tuple",_,PyProof.Rows.slot_tuple_getitem.lookup,ht.typeIs,?_⟩
 refine HT.getItem_tuple_cut ht hs pl pu (by rw[hlen];exact hw) ?_ (by rw[hlen];exact hz)
 rw[hlen]
 refine⟨.ref s.heap.objs.size,_,I.laid (t':=s.toks) (o:= .tup (uK xs lo hi)) (fun b ob q=>Heap.get?_push_of_some _ q) (Nat.le_refl _) ?_,rfl,q _ (I.hok.fresh (Nat.le_refl _))⟩
 exact⟨Nat.le_trans (l8 xs lo hi) hz,_,(r.drop (HT.sIx xs.length 0 lo)).take (HT.sIx xs.length xs.length hi - HT.sIx xs.length 0 lo),IsTup.new _ _⟩
def KD(K:W.Frag):R2:=fun x y H Q=>∃a b xs ys,x= .ref a∧y= .ref b∧SqT K H a xs∧SqT K H b ys∧xs≠[]∧xs.length+ys.length≤sizeLine∧
 (ys=[]→Q (.ref a) H)∧(ys≠[]→∀p,H p=none→Q (.ref p) (upd H p (.tup (xs++ys))))
theorem Vals.nil_iff{xs:List V}{us:List Value}(r:Vals xs us):us=[]↔xs=[]:=by
 cases r with
 |nil=>simp
 |cons _ _=>simp
theorem EG:OpR X (binaryOp .Add) (KD X.K):=by
 intro pins s σ H x y v u Q I rx ry h
 obtain⟨a,b,xs,ys,rfl,rfl,ha,hb,hx,hz,q1,q2⟩:=h
 cases rx
 cases ry
 obtain⟨aB,r1,p1,_⟩:=I.tuple ha
 obtain⟨fH,r2,p2,_⟩:=I.tuple hb
 refine HT.cat_tup p1 p2 (fun z=>hx (r1.nil_iff.mp z)) (fun z=>⟨.ref a,H,I,rfl,q1 (r2.nil_iff.mp z)⟩) (fun z=>?_) (by rw[←r1.length,←r2.length];exact hz)
 refine⟨.ref s.heap.objs.size,_,I.laid (t':=s.toks) (o:= .tup (xs++ys)) (fun b ob q=>Heap.get?_push_of_some _ q) (Nat.le_refl _) ?_,rfl,q2 (fun w=>z (r2.nil_iff.mpr w)) _ (I.hok.fresh (Nat.le_refl _))⟩
 exact⟨by rw[List.length_append];exact hz,_,r1.append r2,IsTup.new _ _⟩
end
def BR(n:Nat)(i:Int):Option Nat:=if 0≤i then(if i<n then some i.toNat else none) else if -(n:Int)≤i then some (i+n).toNat else none
def atI{α:Type}(xs:List α)(i:Int):Option α:=(BR xs.length i).bind fun j=>xs[j]?
theorem El{n:Nat}{i:Int}{j:Nat}(h:BR n i=some j):seqIndex? i n=some j∧j<n∧ -(n:Int)≤i∧i<n:=by
 unfold BR at h
 by_cases h0:0≤i
 ·rw[if_pos h0] at h
  by_cases h1:i<n
  ·rw[if_pos h1] at h
   have e:i.toNat=j:=Option.some.inj h
   exact⟨by rw[seqIndex_of h0 h1,e],by omega,by omega,h1⟩
  ·rw[if_neg h1] at h;cases h
 ·rw[if_neg h0] at h
  by_cases h1: -(n:Int)≤i
  ·rw[if_pos h1] at h
   have e:(i+n).toNat=j:=Option.some.inj h
   exact⟨by rw[seqIndex_neg (by omega) h1,e],by omega,h1,by omega⟩
  ·rw[if_neg h1] at h;cases h
theorem r0{α:Type}{xs:List α}{i:Int}{v:α}(h:atI xs i=some v):∃j,seqIndex? i xs.length=some j∧xs[j]? =some v∧j<xs.length∧ -(xs.length:Int)≤i∧i<xs.length:=by
 unfold atI at h
 cases e:BR xs.length i with
 |none=>rw[e] at h;cases h
 |some j=>
  rw[e] at h
  obtain⟨h1,h2,h3,h4⟩:=El e
  exact⟨j,h1,h,h2,h3,h4⟩
theorem uA{α:Type}(xs:List α)(v:α):atI (xs++[v]) (-1)=some v:=by
 have hl:(xs++[v]).length=xs.length+1:=by simp
 have e:BR (xs++[v]).length (-1)=some xs.length:=by
  unfold BR
  rw[hl,if_neg (by decide),if_pos (by omega)]
  congr 1
  omega
 unfold atI
 rw[e]
 show (xs++[v])[xs.length]? =some v
 simp
def jb(b:Expr):Prop:=∀o i,subscripted b false o i=operate [o,i] (getItem o i)
def IY(X:Cx)(r:R2):Prop:=
 ∀(value slice:Expr) (pins:List (Addr×Obj)) (s:Shared) (σ:St) (H:Hp) (x y:V) (v u:Value) (Q:VK),Inv X pins σ H s→RelV x v→RelV y u→r x y H Q→
  subscripted slice false v u=operate [v,u] (getItem v u)→wpAny (model X.prog X.w) X.A (subscriptTail value slice v u) (EP X pins σ Q) X.xe s
def IZ(X:Cx)(id:String)(r:V→List V→Hp→VK→Prop):Prop:=
 ∀(pins:List (Addr×Obj)) (s:Shared) (σ:St) (H:Hp) (x:V) (xs:List V) (v:Value) (us:List Value) (Q:VK),Inv X pins σ H s→RelV x v→Vals xs us→r x xs H Q→
  wpAny (model X.prog X.w) X.A (call (.builtin id) (v::us)) (EP X pins σ Q) X.xe s
section
variable{X:Cx}{a b:Expr}{ta tb:TE}{pos:Pos}
theorem Ku{r:R2}(hr:IY X r)(ha:PE X a ta)(hb:PE X b tb)(hs:jb b):PE X (.Subscript a b pos) (K5 r ta tb):=by
 intro pins s σ H Q I h
 exact Subscript_ (GH ha hb I h fun v u s2 x y H2 I2 rx ry q=>hr a b pins s2 σ H2 x y v u Q I2 rx ry q (hs _ _))
def Ii(K:W.Frag):R2:=fun x y H Q=>∃p xs i v,x= .ref p∧y= .int i∧SqL K H p xs∧atI xs i=some v∧Q v H
def KN(K:W.Frag):R2:=fun x y H Q=>∃p xs i v,x= .ref p∧y= .int i∧SqT K H p xs∧atI xs i=some v∧Q v H
def KL:R2:=fun x y H Q=>∃z i c,x= .str z∧y= .int i∧z.length≤sizeLine∧atI z.cps.toList i=some c∧Q (.str ⟨#[c]⟩) H
theorem yH:IY X (Ii X.K):=by
 intro value slice pins s σ H x y v u Q I rx ry h hs
 obtain⟨p,xs,i,z,rfl,rfl,hq,he,q⟩:=h
 cases rx
 obtain⟨t,rfl⟩:=ry
 obtain⟨aB,r,pl,hz⟩:=I.list hq
 obtain⟨j,h1,h2,h3,h4,h5⟩:=r0 he
 obtain⟨w,ew,wD⟩:=r.get h2
 have hl:=r.length
 have hn:=lH
 have fin:EP X pins σ Q w s:=⟨z,H,I,wD,q⟩
 by_cases h0:0≤i
 ·have hj:i.toNat=j:=by
   rw[seqIndex_of h0 h5] at h1
   exact Option.some.inj h1
  exact item_listR pl.isList h0 (by omega) (by rw[hj];simpa using ew) fin hs
 ·have hj:(i+(aB.toArray.size:Int)).toNat=j:=by
   rw[seqIndex_neg (by omega) h4] at h1
   rw[List.size_toArray,←hl]
   exact Option.some.inj h1
  exact subscriptTail_builtinR (x:=w) pl.isList.typeIs slot_list_getitem.lookup
   (wpAny_getItem_list_neg (Q:=fun r s'=>r=w∧EP X pins σ Q r s') pl.isList (by omega) (by rw[List.size_toArray]<;>omega) (by omega) (by rw[hj];simpa using ew) ⟨rfl,fin⟩) hs
theorem Ho:IY X (KN X.K):=by
 intro value slice pins s σ H x y v u Q I rx ry h hs
 obtain⟨p,xs,i,z,rfl,rfl,hq,he,q⟩:=h
 cases rx
 obtain⟨t,rfl⟩:=ry
 obtain⟨aB,r,pl,hz⟩:=I.tuple hq
 obtain⟨j,h1,h2,h3,h4,h5⟩:=r0 he
 obtain⟨w,ew,wD⟩:=r.get h2
 have hl:=r.length
 have hn:=lH
 have fin:EP X pins σ Q w s:=⟨z,H,I,wD,q⟩
 exact subscriptTail_builtinR (x:=w) pl.typeIs slot_tuple_getitem.lookup
  (getItem_tuple (j:=j) (Q:=fun r s'=>r=w∧EP X pins σ Q r s') pl (by omega) (by omega) (by rw[List.size_toArray,←hl];exact h1) (by simpa using ew) ⟨rfl,fin⟩) hs
theorem Hn:IY X KL:=by
 intro value slice pins s σ H x y v u Q I rx ry h hs
 obtain⟨z,i,c,rfl,rfl,hz,he,q⟩:=h
 obtain⟨t,rfl⟩:=rx
 obtain⟨t',rfl⟩:=ry
 obtain⟨j,h1,h2,h3,h4,h5⟩:=r0 he
 have hl:z.cps.toList.length=z.length:=by simp[Str.length]
 rw[hl] at h1 h4 h5
 have hn:=lH
 exact tail_any (typeIs_str s z t) slot_str_getitem.lookup (getItem_str (c:=c) (by
  have e1:decide (i< -(2 ^ 63:Int))=false:=decide_eq_false (by omega)
  have e2:decide (i≥2 ^ 63)=false:=decide_eq_false (by omega)
  rw[e1,e2,Bool.or_false]) (by rw[h1];simpa using h2) ⟨.str ⟨#[c]⟩,H,I.tok _,⟨_,rfl⟩,q⟩) hs
theorem Inv.lst{pins:List (Addr×Obj)}{σ:St}{H:Hp}{s:Shared}{p:Addr}{xs:List V}(I:Inv X pins σ H s)(h:H p=some (.lst xs)):
 ∃(aB:List Value) (n:Nat),Vals xs aB∧s.heap.get? p=some {cls:= .type "list",data:= .seq aB.toArray n}∧xs.length≤sizeLine:=by
 obtain⟨z,aB,n,r,e⟩:=I.hok p _ h
 exact⟨aB,n,r,e,z⟩
theorem t7(lo hi:Option Int)(n:Nat):(sliceBounds lo hi none n).1=((HT.sIx n 0 lo:Nat):Int)∧(sliceBounds lo hi none n).2.1=((HT.sIx n n hi:Nat):Int)∧(sliceBounds lo hi none n).2.2=1:=by
 refine⟨?_,?_,rfl⟩
 ·cases lo with
  |none=>simp[sliceBounds,HT.sIx]
  |some i=>
   simp only[sliceBounds,HT.sIx,Option.getD_none,show (1:Int)>0 by decide,if_true]
   by_cases h:i<0
   ·simp only[h,if_true]<;>omega
   ·simp only[h,if_false]<;>omega
 ·cases hi with
  |none=>simp[sliceBounds,HT.sIx]
  |some i=>
   simp only[sliceBounds,HT.sIx,Option.getD_none,show (1:Int)>0 by decide,if_true]
   by_cases h:i<0
   ·simp only[h,if_true]<;>omega
   ·simp only[h,if_false]<;>omega
theorem qi(aB:List Value)(lo hi:Option Int):slicePick aB.toArray lo hi none=((aB.drop (HT.sIx aB.length 0 lo)).take (HT.sIx aB.length aB.length hi - HT.sIx aB.length 0 lo)).toArray:=by
 obtain⟨h1,h2,h3⟩:=t7 lo hi aB.toArray.size
 unfold slicePick
 rw[h1,h2,h3]
 simp only[sliceRange_one,pick_run,List.size_toArray]<;>rfl
def Nh(K:W.Frag):V→Option Int→Option Int→Hp→VK→Prop:=fun x lo hi H Q=>∃a xs,x= .ref a∧SqL K H a xs∧∀p,H p=none→Q (.ref p) (upd H p (.lst (uK xs lo hi)))
theorem Fz:SlR X (Nh X.K):=by
 intro pins s σ H x v vl vu lo hi sl Q I rx hs pl pu h
 obtain⟨a,xs,rfl,hx,q⟩:=h
 cases rx
 obtain⟨aB,r,ht,hz⟩:=I.list hx
 have hlen:=r.length
 refine⟨"list",_,slot_list_getitem.lookup,ht.isList.typeIs,?_⟩
 refine wpAny_getItem_list_slice ht.isList hs pl pu .none (by simp) ?_ (by rw[List.size_toArray]<;>omega)
 rw[qi,←hlen]
 refine⟨.ref s.heap.objs.size,_,I.laid (t':=s.toks) (o:= .lst (uK xs lo hi)) (fun b ob q=>Heap.get?_push_of_some _ q) (Nat.le_refl _) ?_,rfl,q _ (I.hok.fresh (Nat.le_refl _))⟩
 exact⟨Nat.le_trans (l8 xs lo hi) hz,_,0,(r.drop (HT.sIx xs.length 0 lo)).take (HT.sIx xs.length xs.length hi - HT.sIx xs.length 0 lo),Heap.get?_push_size _ rfl⟩
def l_:V→Bool
 | .non=>true
 | .bl _=>true
 | .int _=>true
 | .str _=>true
 |_=>false
def DC:V→V→Bool
 | .non, .non=>true
 | .bl a, .bl b=>a==b
 | .bl a, .int b=>(if a then 1 else 0)==b
 | .int a, .bl b=>a==(if b then 1 else 0)
 | .int a, .int b=>a==b
 | .str a, .str b=>a==b
 |_,_=>false
theorem GP{A:Around}{s:Shared}{y x:V}{u v:Value}(ry:RelV y u)(rx:RelV x v)(fy:l_ y=true)(fx:l_ x=true):SeqAt.EqAt A s u v (DC y x):=by
 cases y with
 |non=>
  cases ry
  cases x with
  |non=>cases rx;exact SeqAt.EqAt.same _
  |bl b=>cases rx;exact SeqAt.EqAt.none_bool b
  |int b=>obtain⟨t,rfl⟩:=rx;exact SeqAt.EqAt.none_int b t
  |str b=>obtain⟨t,rfl⟩:=rx;exact SeqAt.EqAt.none_str b t
  |_=>exact absurd (show false=true from fx) Bool.false_ne_true
 |bl a=>
  cases ry
  cases x with
  |non=>cases rx;exact SeqAt.EqAt.bool_none a
  |bl b=>cases rx;exact SeqAt.EqAt.bool_bool a b
  |int b=>obtain⟨t,rfl⟩:=rx;exact SeqAt.EqAt.bool_int a b t
  |str b=>obtain⟨t,rfl⟩:=rx;exact SeqAt.EqAt.bool_str a b t
  |_=>exact absurd (show false=true from fx) Bool.false_ne_true
 |int a=>
  obtain⟨t',rfl⟩:=ry
  cases x with
  |non=>cases rx;exact SeqAt.EqAt.int_none a t'
  |bl b=>cases rx;exact SeqAt.EqAt.int_bool a t' b
  |int b=>obtain⟨t,rfl⟩:=rx;exact SeqAt.EqAt.int_int a t' b t
  |str b=>obtain⟨t,rfl⟩:=rx;exact SeqAt.EqAt.int_str a t' b t
  |_=>exact absurd (show false=true from fx) Bool.false_ne_true
 |str a=>
  obtain⟨t',rfl⟩:=ry
  cases x with
  |non=>cases rx;exact SeqAt.EqAt.str_none a t'
  |bl b=>cases rx;exact SeqAt.EqAt.str_bool a t' b
  |int b=>obtain⟨t,rfl⟩:=rx;exact SeqAt.EqAt.str_int a t' b t
  |str b=>obtain⟨t,rfl⟩:=rx;exact SeqAt.EqAt.str_str a t' b t
  |_=>exact absurd (show false=true from fx) Bool.false_ne_true
 |_=>exact absurd (show false=true from fy) Bool.false_ne_true
def wW(x:V)(u:Value):Bool:=match u with
 | .none=>DC .non x
 | .bool b=>DC (.bl b) x
 | .int i _=>DC (.int i) x
 | .str z _=>DC (.str z) x
 |_=>false
theorem Bi{x y:V}{u:Value}(r:RelV y u)(f:l_ y=true):wW x u=DC y x:=by
 cases y with
 |non=>cases r;rfl
 |bl b=>cases r;rfl
 |int i=>obtain⟨t,rfl⟩:=r;rfl
 |str z=>obtain⟨t,rfl⟩:=r;rfl
 |_=>exact absurd (show false=true from f) Bool.false_ne_true
theorem j6{x:V}:∀{xs:List V}{us:List Value},Vals xs us→xs.all l_=true→us.any (wW x)=xs.any fun y=>DC y x
 |_,_, .nil,_=>rfl
 |y::xs,u::us, .cons r t,f=>by
  rw[List.all_cons,Bool.and_eq_true] at f
  rw[List.any_cons,List.any_cons,Bi r f.1,j6 t f.2]
theorem iE{A:Around}{s:Shared}{x:V}{v:Value}(rx:RelV x v)(fx:l_ x=true):∀{xs:List V}{us:List Value},Vals xs us→xs.all l_=true→∀u∈us,SeqAt.EqAt A s u v (wW x u)
 |_,_, .nil,_=>fun u hu=>by cases hu
 |y::xs,u::us, .cons r t,f=>fun u' hu=>by
  rw[List.all_cons,Bool.and_eq_true] at f
  rcases List.mem_cons.mp hu with rfl | hu
  ·rw[Bi r f.1];exact GP r rx f.1 fx
  ·exact iE rx fx t f.2 u' hu
def LH(x:V)(xs:List V):Bool:=xs.any fun y=>DC y x
def Ng(K:W.Frag)(neg:Bool):R2:=fun x y H Q=>∃p xs,y= .ref p∧(SqL K H p xs∨SqT K H p xs)∧l_ x=true∧xs.all l_=true∧Q (.bl (if neg then !LH x xs else LH x xs)) H
theorem Af:OpR X (compareOp .In) (Ng X.K false):=by
 intro pins s σ H x y v u Q I rx ry h
 obtain⟨p,xs,rfl,hq,fx,fs,q⟩:=h
 cases ry
 rcases hq with hq | hq
 ·obtain⟨aB,r,pl,hz⟩:=I.list hq
  refine SeqAt.in_listAt (wW x) pl.isList (fun w hw=>iE rx fx r fs w (by simpa using hw)) ⟨.bl _,H,I,rfl,?_⟩
  rw[show aB.toArray.any (wW x)=aB.any (wW x) by simp,j6 r fs]
  exact q
 ·obtain⟨aB,r,pl,hz⟩:=I.tuple hq
  refine SeqAt.in_tupleAt (wW x) pl (fun w hw=>iE rx fx r fs w (by simpa using hw)) ⟨.bl _,H,I,rfl,?_⟩
  rw[show aB.toArray.any (wW x)=aB.any (wW x) by simp,j6 r fs]
  exact q
theorem tj:OpR X (compareOp .NotIn) (Ng X.K true):=by
 intro pins s σ H x y v u Q I rx ry h
 obtain⟨p,xs,rfl,hq,fx,fs,q⟩:=h
 cases ry
 rcases hq with hq | hq
 ·obtain⟨aB,r,pl,hz⟩:=I.list hq
  refine SeqAt.notIn_listAt (wW x) pl.isList (fun w hw=>iE rx fx r fs w (by simpa using hw)) ⟨.bl _,H,I,rfl,?_⟩
  rw[show aB.toArray.any (wW x)=aB.any (wW x) by simp,j6 r fs]
  exact q
 ·obtain⟨aB,r,pl,hz⟩:=I.tuple hq
  refine SeqAt.notIn_tupleAt (wW x) pl (fun w hw=>iE rx fx r fs w (by simpa using hw)) ⟨.bl _,H,I,rfl,?_⟩
  rw[show aB.toArray.any (wW x)=aB.any (wW x) by simp,j6 r fs]
  exact q
theorem sf:CallR X (.builtin "len") (fun xs H Q=>∃p ys,xs=[.ref p]∧(SqL X.K H p ys∨SqT X.K H p ys)∧Q (.int ys.length) H):=by
 intro pins s σ H xs us Q I r h
 obtain⟨p,ys,rfl,hq,q⟩:=h
 obtain⟨u,rfl,rx⟩:=vals1 r
 cases rx
 have hn:=lH
 rcases hq with hq | hq
 ·obtain⟨aB,r',pl,hz⟩:=I.list hq
  have hlen:=r'.length
  exact Calls.call_len_list pl.isList (by simp only[List.size_toArray]<;>omega) ⟨.int ys.length,H,I.tok _,⟨s.toks+1,by rw[List.size_toArray,hlen]⟩,q⟩
 ·obtain⟨aB,r',pl,hz⟩:=I.tuple hq
  have hlen:=r'.length
  exact len_tuple pl (by simp only[List.size_toArray]<;>omega) ⟨.int ys.length,H,I.tok _,⟨s.toks+1,by rw[List.size_toArray,hlen]⟩,q⟩
theorem si:CallR X (.builtin "len") (fun xs H Q=>∃z,xs=[.str z]∧z.length≤sizeLine∧Q (.int z.length) H):=by
 intro pins s σ H xs us Q I r h
 obtain⟨z,rfl,hz,q⟩:=h
 obtain⟨u,rfl,t,rfl⟩:=vals1 r
 have hn:=lH
 exact len_str (by omega) ⟨.int z.length,H,I.tok _,⟨_,rfl⟩,q⟩
theorem CallR.or{f:Value}{r r':List V→Hp→VK→Prop}(h:CallR X f r)(h':CallR X f r'):CallR X f (fun xs H Q=>r xs H Q∨r' xs H Q):=by
 intro pins s σ H xs us Q I rs q
 rcases q with q | q
 ·exact h pins s σ H xs us Q I rs q
 ·exact h' pins s σ H xs us Q I rs q
theorem pX:CallR X (.type "tuple") (fun xs H Q=>∃p ys,xs=[.ref p]∧((SqL X.K H p ys∧∀l,H l=none→Q (.ref l) (upd H l (.tup ys)))∨(SqT X.K H p ys∧Q (.ref p) H))):=by
 intro pins s σ H xs us Q I r h
 obtain⟨p,ys,rfl,h⟩:=h
 obtain⟨u,rfl,rx⟩:=vals1 r
 cases rx
 rcases h with⟨hq,q⟩ | ⟨hq,q⟩
 ·obtain⟨aB,r',pl,hz⟩:=I.list hq
  have hlen:=r'.length
  refine call_tuple_list pl.isList (fun h' kp=>?_) (by simp only[List.size_toArray]<;>omega)
  have I1:Inv X pins σ H {s with heap:=h'}:=I.kept (t':=s.toks) kp
  have I2:Inv X pins σ (upd H h'.objs.size (.tup ys)) {s with heap:=h'.push {cls:= .type "tuple",data:= .seq aB.toArray} }:=
   I1.laid (t':=s.toks) (fun b o e=>Heap.get?_push_of_some _ e) (Nat.le_refl _) (show ObjOk X.prog X.w _ _ _ (.tup ys) from⟨hz,aB,r',IsTup.new _ _⟩)
  exact⟨.ref h'.objs.size,_,I2,rfl,q _ (I1.hok.fresh (Nat.le_refl _))⟩
 ·obtain⟨aB,r',pl,hz⟩:=I.tuple hq
  exact call_tuple_same pl ⟨.ref p,H,I,rfl,q⟩
def K7(K:W.Frag)(T:String)(x:V)(H:Hp):Prop:=match x with
 | .str _=>T="str"
 | .int _=>T="int"
 | .ref p=>(T="list"∧∃xs,SqL K H p xs)∨(T="tuple"∧∃o,K.lookup p=some o∧o.cls= .type "tuple"∧o.dict=none)∨
    (T="dict"∧((∃aw,H p=some (.dK aw))∨∃aw,H p=some (.dT aw)))∨(T="set"∧∃S n,H p=some (.set S n))
 |_=>False
theorem IB{pins:List (Addr×Obj)}{σ:St}{H:Hp}{s:Shared}{T:String}{x:V}{v:Value}(I:Inv X pins σ H s)(r:RelV x v)(ty:K7 X.K T x H):
 s.TypeIs v T∧∀a,v= .ref a→∃ob,s.heap.get? a=some ob∧ob.dict=none:=by
 cases x with
 |str z=>
  obtain⟨t,rfl⟩:=r
  cases (show T="str" from ty)
  exact⟨typeIs_str s z t,fun _ e=>nomatch e⟩
 |int i=>
  obtain⟨t,rfl⟩:=r
  cases (show T="int" from ty)
  exact⟨typeIs_int s i t,fun _ e=>nomatch e⟩
 |ref p=>
  cases r
  rcases ty with⟨rfl,xs,hq⟩ | ⟨rfl,o,hk,hc,hd⟩ | ⟨rfl,hk⟩ | ⟨rfl,S,n,hk⟩
  ·obtain⟨aB,_,pl,_⟩:=I.list hq
   refine⟨pl.isList.typeIs,fun a e=>?_⟩
   cases e
   obtain⟨o,n,e,c,hd,_⟩:=pl
   exact⟨o,e,hd⟩
  ·refine⟨⟨o,I.kIn p o hk,hc⟩,fun a e=>?_⟩
   cases e
   exact⟨o,I.kIn _ o hk,hd⟩
  ·have z:∃o,s.heap.get? p=some o∧o.ExactDict:=by
    rcases hk with⟨aw,hk⟩ | ⟨aw,hk⟩
    ·obtain⟨_,_,_,_,o,_,_,e,ex,_⟩:=I.hok p _ hk
     exact⟨o,e,ex⟩
    ·obtain⟨_,_,_,_,o,_,_,e,ex,_⟩:=I.hok p _ hk
     exact⟨o,e,ex⟩
   obtain⟨o,e,ex⟩:=z
   refine⟨⟨o,e,ex.1⟩,fun a e2=>?_⟩
   cases e2
   exact⟨o,e,ex.2.1⟩
  ·obtain⟨o,_,_,_,e,ex,_⟩:=I.hok p _ hk
   refine⟨⟨o,e,ex.1⟩,fun a e2=>?_⟩
   cases e2
   exact⟨o,e,ex.2.1⟩
 |_=>exact False.elim ty
def Nn(K:W.Frag)(T:String)(r:V→List V→Hp→VK→Prop)(to:TE)(t:TA):TE:=fun σ H Q=>to σ H fun x H1=>K7 K T x H1∧t σ H1 fun xs H2=>r x xs H2 Q
variable{o e:Expr}{es:List Expr}{to:TE}{t:TA}{name:Str}{apos aT:Pos}{T id:String}{r:V→List V→Hp→VK→Prop}
theorem CC(pa:PlainAttrs T)(slot:Slot T name id)(MN:typeOf (.builtin id)=pure (.type "method_descriptor"))(hm:IZ X id r)(ho:PE X o to)(ha:PA X (e::es) t)
 (fE:attributeBase o name X.env (eval o X.env)=eval o X.env:=by rfl)
 (lB:((backTo aT (starEach (e::es) X.env)).all (fun x=>!x.1)&&(backToKw aT (keywordEach [] X.env)).all (fun x=>x.1.isSome)
  &&decide ((e::es).length+([]:List Keyword).length+(if ([]:List Keyword).isEmpty then 0 else 1)<30))=true:=by rfl)
 (fF:(apos.endLine==aT.line)=true:=by rfl) (hs:starEach (e::es) X.env=(false,eval e X.env)::starEach es X.env:=by rfl) (w9:(backTo aT (starEach es X.env)).any (·.1)=false:=by rfl):
 PE X (.Call (.Attribute o name apos) (e::es) [] aT) (Nn X.K T r to t):=by
 intro pins s σ H Q I h
 refine wpAny_Call_method_late fE lB fF rfl (bN (ho pins s σ H _ I h) fun v s1 ⟨x,H1,I1,r1,ty,q1⟩=>?_)
 obtain⟨h1,h2⟩:=IB I1 r1 ty
 refine⟨T,id,pa,slot,MN,h1,h2,?_⟩
 have hA:=ha aT pins s1 σ H1 _ I1 q1
 rw[hs] at hA⊢
 refine Calls.callWith_builtin (by show (false||(backTo aT (starEach es X.env)).any (·.1))=false;rw[w9]<;>rfl) (Calls.evalArgs_plain ?_)
 exact bN hA fun us s2 ⟨vs,H2,I2,r2,q2⟩=>hm pins s2 σ H2 x vs v us Q I2 r1 r2 q2
end
def NH(X:Cx)(id:String)(r:V→List V→Hp→VK→Prop):Prop:=
 ∀(pins:List (Addr×Obj)) (s:Shared) (σ:St) (H:Hp) (x:V) (xs:List V) (v:Value) (us:List Value) (Q:VK),Inv X pins σ H s→RelV x v→Vals xs us→r x xs H Q→
  wpAny (model X.prog X.w) X.A (call (.builtin id) (v::us)) (EP X pins σ Q) X.xe s
theorem Vals.one:∀{x:V}{us:List Value},Vals [x] us→∃u,us=[u]∧RelV x u
 |_,_, .cons r .nil=>⟨_,rfl,r⟩
section
variable{X:Cx}{pins:List (Addr×Obj)}{σ:St}{H:Hp}{s:Shared}{l b:Addr}{xs ys zs:List V}
theorem Inv.lset{aB its':List Value}{n:Nat}{f:Array Value→Array Value}{t':Nat}(I:Inv X pins σ H s)(hH:H l=some (.lst xs))
 (e:s.heap.get? l=some {cls:= .type "list",data:= .seq aB.toArray n})(hf:f aB.toArray=its'.toArray)(hv:Vals ys its')(hz:ys.length≤sizeLine):
 Inv X pins σ (upd H l (.lst ys)) {s with heap:=s.heap.update l (Obj.mapSeq f),toks:=t'}:=by
 have q:=PySem.IsL.update e f
 rw[hf] at q
 refine I.write (x:=l) (e:=l) (by rw[hH];exact trivial) (.inl rfl) (fun b' u hb hu=>(Heap.get?_update_other s.heap (Obj.mapSeq f) (Ne.symm hb)).trans hu) ⟨_,q⟩ ?_
 exact⟨hz,its',_,hv,q⟩
theorem Inv.lstM(I:Inv X pins σ H s)(hH:H l=some (.lst xs)):xs.length≤sizeLine∧∃(aB:List Value) (n:Nat),Vals xs aB∧xs.length=aB.length∧s.heap.get? l=some {cls:= .type "list",data:= .seq aB.toArray n}:=by
 obtain⟨z,aB,n,r,e⟩:=I.hok l _ hH
 exact⟨z,aB,n,r,r.length,e⟩
theorem Ca{n:Nat}(h:n≤sizeLine):Builtin.List.listTooLong n=false:=by
 unfold Builtin.List.listTooLong
 exact decide_eq_false (by omega)
end
section
variable{X:Cx}
def y_:V→List V→Hp→VK→Prop:=fun x vs H Q=>∃l xs y,x= .ref l∧vs=[y]∧H l=some (.lst xs)∧xs.length<sizeLine∧Q .non (upd H l (.lst (xs++[y])))
theorem q9:NH X "list.append" y_:=by
 intro pins s σ H x vs v us Q I rx rv h
 obtain⟨l,xs,y,rfl,rfl,hH,hz,q⟩:=h
 cases rx
 obtain⟨u,rfl,ru⟩:=rv.one
 obtain⟨z,aB,n,r,hl,e⟩:=I.lstM hH
 refine call_meets F.slot_list_append ⟨_,e,rfl⟩ F.entry_list_append (F.args_list_append_2 _ _) (PySem.list_append l aB.toArray n u (by rw[List.size_toArray];omega)) ⟨e,?_⟩
 refine⟨.non,_,I.lset (its':=aB++[u]) hH e (by simp) (r.append (.cons ru .nil)) ?_,rfl,q⟩
 rw[List.length_append,List.length_singleton]
 omega
def za:V→List V→Hp→VK→Prop:=fun x vs H Q=>∃l b xs zs,x= .ref l∧vs=[.ref b]∧H l=some (.lst xs)∧H b=some (.lst zs)∧xs.length+zs.length≤sizeLine∧Q .non (upd H l (.lst (xs++zs)))
theorem z8:NH X "list.extend" za:=by
 intro pins s σ H x vs v us Q I rx rv h
 obtain⟨l,b,xs,zs,rfl,rfl,hH,hB,hz,q⟩:=h
 cases rx
 obtain⟨u,rfl,ru⟩:=rv.one
 cases ru
 obtain⟨z,aB,n,r,hl,e⟩:=I.lstM hH
 obtain⟨z2,fH,n2,r2,G4,e2⟩:=I.lstM hB
 have hsz:aB.toArray.size+fH.toArray.size≤sizeLine:=by rw[List.size_toArray,List.size_toArray];omega
 have JN:¬(!aB.toArray.isEmpty&&Builtin.List.listTooLong (aB.toArray.size+fH.toArray.size))=true:=by
  rw[Ca hsz,Bool.and_false]
  exact Bool.false_ne_true
 refine call_meets F.slot_list_extend ⟨_,e,rfl⟩ F.entry_list_extend (F.args_list_extend_2 _ _)
  (AutoSeq1.list_extend_list_list_0 l aB.toArray n b fH.toArray n2 JN (by rw[List.size_toArray];omega) (by omega)) ⟨e,e2,?_⟩
 refine⟨.non,_,I.lset (its':=aB++fH) hH e (by simp) (r.append r2) ?_,rfl,q⟩
 rw[List.length_append]
 omega
end
section
variable{prog:Program}{w:World}{A:Around}{E:Value→Shared→Prop}{s:Shared}
end
section
variable{X:Cx}
end
end L2
namespace Att
open PySem PySem.W PySem.Calls PyProof.Rows
theorem ints_of_wellAll{P:Params}{h:Heap}:∀(ns:List Int) (vs:List Value),WellAll P h vs (ns.map WData.int)→IntsAre vs ns:=by
 intro ns
 induction ns with
 |nil=>
  intro vs w
  rw[List.map_nil] at w
  cases w
  exact .nil
 |cons n ns ih=>
  intro vs w
  rw[List.map_cons] at w
  cases w with
  |cons a b=>
   cases a
   exact .cons _ _ (ih _ b)
theorem script_of{l:OpenLaw}{n:Nat}(hn:l.most=some n){P:Params}{h:Heap}{args:List WData}{vals:List Value}
 (Ec:l.row.toRowW.claim.pre args=true)(MT:WellAll P h vals args):
 ∃a vs ns,vals=[Value.ref a]∧args=[WData.list (ns.map WData.int)]∧h.get? a=some {cls:= .type "list",data:= .seq vs.toArray}∧IntsAre vs ns∧ns.length≤n:=by
 have Qj:WShape.hasAll [] args [.list .int]=true:=(pre_splitW Ec).1
 have hc:l.pre.holds [] {args:=args}=true:=(pre_splitW Ec).2
 obtain⟨d,r,rfl,h1,h2⟩:=hasAllW_cons Qj
 obtain rfl:=hasAllW_nil h2
 obtain⟨xs,rfl,h3⟩:=hasW_list h1
 obtain⟨ns,rfl⟩:=items_int h3
 have hlen:ns.length≤n:=by
  unfold OpenLaw.pre at hc
  have h4:(WTm.not (.lt (.lit (.int (n:Int))) (.len (.arg 0)))).holds [] {args:=[.list (ns.map .int)]}=true:=by
   have h4:=(holds_andW hc).1
   rw[hn] at h4
   exact h4
  have h5:=condW_of h4 (w_not (w_lt w_lit (w_len_list (w_arg rfl))))
  rw[List.length_map] at h5
  refine Nat.le_of_not_lt fun q=>?_
  have q':(n:Int)<((ns.length:Nat):Int):=by omega
  first
   |(rw [decide_eq_true q'] at h5;exact absurd h5 (by decide))
   |(simp at h5;omega)
 cases MT with
 |cons w1 w2=>
  cases w2
  cases w1 with
  |list ho D4=>exact⟨_,_,ns,rfl,rfl,ho,ints_of_wellAll ns _ D4,hlen⟩
theorem post_true(l:OpenLaw)(args:List WData):l.row.toRowW.claim.post args (.bool true) args=true:=
 postW_of (r:=l.row.toRowW) (X:=(true==true))
  (show WShape.has [] (.bool true) .bool=true by first | rfl | decide | simp[WShape.has,WShape.arms,WShape.armsAll])
  (show (WTm.eq .res (.lit (.bool true))).value [] {args:=args,res:=some (.bool true),after:=args}=some (.bool (true==true)) from w_eq_bool (w_res rfl) w_lit) rfl
theorem attach_call{l:OpenLaw}{n:Nat}{q:Program}{loose:List Str}{XP:(Str→Option Value)→Heap→Prop}{YP:World→Heap→Prop}{d:DefRec}
 (hn:l.most=some n)(JD:d.params.defaults=[])
 (call:∀(w:World) (s₀ s₁:Shared) (mg mb:Str→Option Value) (fa:Addr) (o:Obj) (pm cd doc:Value) (a:Addr) (vs:List Value) (ns:List Int),
  Ground q loose [] XP w s₀ mg mb s₁.heap→YP w s₁.heap→
  s₁.heap.get? fa=some o→o.data= .func (docDef d.name d.params d.body d.scope pm cd doc)→s₁.heap.CodeRec cd d.name→mg d.name=some (.ref fa)→
  s₁.heap.get? a=some {cls:= .type "list",data:= .seq vs.toArray}→IntsAre vs ns→ns.length≤n→s₁.gens= #[]→
  codeAny (model l.prog w) callerA (.call (.ref fa) ⟨[.ref a],[]⟩) (fun r s'=>r= .ok (.ret (.bool true))∧OldK s₁.heap s'.heap∧s'.os=s₁.os∧AllBare s'.gens) s₁):
 WalkO q loose XP YP l.row.toRowW d [] (fun f vs=>PySem.call f vs):=by
 intro w s₀ s₁ mg mb G Y fa o pm cd doc dV kV ho hd wC hD G7 hg args vals as Ec PY Rg MT Q_
 obtain rfl:dV= .none:=Dflts.none hD JD
 obtain rfl:kV= .none:=Dflts.noKw hD
 obtain⟨a,vs,ns,rfl,rfl,BB,hints,hlen⟩:=script_of hn Ec MT
 refine enter_call (codeAny_mono (call w s₀ s₁ mg mb fa o pm cd doc a vs ns G Y ho (fd_plain hd) wC G7 BB hints hlen hg) fun r s' hq=>?_)
 obtain⟨rfl,h2,h3,h4⟩:=hq
 exact⟨.inl ⟨.bool true, .bool true,[],rfl,fun _=>rfl, .bool true,post_true l _,fun _=>⟨List.Pairwise.nil,fun _ hm=>(nomatch hm)⟩⟩,h2,h3,h4⟩
section
variable{prog:Program}{w:World}{A:Around}{E:Value→Shared→Prop}{s:Shared}{K:Frag}
def ledger(h:Heap)(L d:Addr):List (Addr×Obj):=(List.range h.objs.size).filterMap fun a=>if a=L∨a=d then none else(h.get? a).map fun o=>(a,o)
end
end Att
namespace L2
open PySem PySem.Spec PyProof.Rows
theorem rT:∀{vs:List Value}{ns:List Int},IntsAre vs ns→Vals (ns.map V.int) vs
 |_,_, .nil=> .nil
 |_,_, .cons n t h=> .cons ⟨t,rfl⟩ (rT h)
def GD(H:Hp):Prop:=∀b,H b=none∨∃o xs,H b=some (.frz o (.lst xs))
theorem vc{P:Program}{w:World}{K:W.Frag}{mg mb:Str→Option Value}{CX:wG}{k:Nat}{fa a:Addr}{fd:FuncData}{x:Str}{sp:Sp}{s₁:Shared}{vs:List Value}{ns:List Int}
 (KX:K.In s₁.heap)(Lv:s₁.heap.Ns mainGlobals mg)(hb:s₁.heap.Ns builtinsNs mb)(Pl:∀x:Str,x≠"__name__"→mb x=bootBuiltins x)(JM:s₁.heap.NoLimit)(hg:s₁.gens= #[])
 (ha:s₁.heap.get? a=some {cls:= .type "list",data:= .seq vs.toArray})(hi:IntsAre vs ns)(hl:ns.length≤sizeLine)(hr:Room k callerA)
 (F:∀base:Heap,K.In base→base.Ns mainGlobals mg→FnOk P w K mg base CX k fa fd [x] sp)(Jz:∀(s:Shared) (u:Value),BindsTo s fd ⟨[u],[]⟩ [(x,u)])
 (DJ:∀H:Hp,GD H→SqL K H a (ns.map V.int)→sp [.ref a] H (fun v _=>v= .bl true) fun _ _ _=>False)
 (L8:∀H e s',CX [] H s₁ (fun _ _ _=>False) e s'→False):
 codeAny (model P w) callerA (.call (.ref fa) ⟨[.ref a],[]⟩) (fun r s'=>r= .ok (.ret (.bool true))∧OldK s₁.heap s'.heap∧s'.os=s₁.os∧AllBare s'.gens) s₁:=by
 have rv:=rT hi
 have M7:=hi.length
 have core:∀H:Hp,GD H→SqL K H a (ns.map V.int)→HOk P w H s₁.heap→(∀b,H b≠none→b=a)→(H a≠none→K.lookup a=none)→
  codeAny (model P w) callerA (.call (.ref fa) ⟨[.ref a],[]⟩) (fun r s'=>r= .ok (.ret (.bool true))∧OldK s₁.heap s'.heap∧s'.os=s₁.os∧AllBare s'.gens) s₁:=by
  intro H hO hS hok hA hK
  have yt:∀{b:Addr}{o:Obj},s₁.heap.get? b=some o→H b=none→(sy s₁.heap H).get? b=some o:=fun e n=>BA e n
  have Ke:∀{b:Addr}{o:Obj}{es:Array DictEntry}{ep:Nat},s₁.heap.get? b=some o→o.data= .dict es ep→H b=none:=fun {b o es ep} e d=>by
   cases q:H b with
   |none=>rfl
   |some u=>
    have e':b=a:=hA b (by rw[q];simp)
    subst e'
    rw[ha] at e;cases e
    have d':Data.seq vs.toArray _=Data.dict es ep:=d
    cases d'
  have LJ:∀{b:Addr}{m:Str→Option Value},s₁.heap.Ns b m→(sy s₁.heap H).Ns b m:=fun {b m} ⟨o,es,ep,e,d,r⟩=>⟨o,es,ep,yt e (Ke e d),d,r⟩
  have N0:K.In (sy s₁.heap H):=fun b o e=>yt (KX b o e) (by
   cases q:H b with
   |none=>rfl
   |some u=>
    have e':b=a:=hA b (by rw[q];simp)
    subst e'
    rw[hK (by rw[q];simp)] at e;cases e)
  have hM:Mod K mg (sy s₁.heap H):=⟨N0,LJ Lv,⟨mb,LJ hb,Pl⟩,let ⟨mc,h1,h2⟩:=JM;⟨mc,LJ h1,h2⟩⟩
  have e0:Env0 P w K mg (sy s₁.heap H) callerA [] s₁ H:=⟨rfl,hM,fun b o e=>ED e,Nat.le_of_eq (zL _ _),trivial,fun b hb=>absurd (show b∈([]:List Addr) from hb) (by simp),hok, .of_eq hg⟩
  refine codeAny_mono ((F _ N0 (LJ Lv)).run callerA [] s₁ H ⟨[.ref a],[]⟩ [.ref a] [.ref a] _ _ hr e0 (Jz s₁ (.ref a)) (.cons rfl .nil) (DJ H hO hS)) fun r s' h=>?_
  cases r with
  |error e=>exact(L8 H e s' h).elim
  |ok fl=>
   cases fl with
   |next=>exact False.elim h
   |brk=>exact False.elim h
   |cont=>exact False.elim h
   |ret u=>
    obtain⟨v,H',os,bare,un,MD,r',q⟩:=h
    have q':v= .bl true:=q
    subst q'
    obtain rfl:u=Value.bool true:=r'
    refine⟨rfl,OldK.of_keep fun b o e=>?_,os,bare⟩
    cases q:H b with
    |none=>exact un.keep b o e q (by intro z;exact absurd (show b∈([]:List Addr) from z) (by simp)) (by simp)
    |some u=>
     rcases hO b with z | ⟨ob,xs,z⟩
     ·rw[q] at z;cases z
     ·have z2:=un.frzs b ob _ z
      obtain⟨e1,_⟩:=hok b _ z
      obtain⟨e2,_⟩:=MD b _ z2
      rw[e] at e1;cases e1
      exact e2
 cases hk:K.lookup a with
 |some o=>
  have e:=KX a o hk
  rw[ha] at e
  cases e
  refine core (fun _=>none) (fun _=> .inl rfl) (.inr ⟨_,vs.toArray,_,hk,rfl,rfl,rfl,by rw[List.size_toArray,M7];exact hl,by simpa using rv⟩) (fun b u z=>by have z':(none:Option HO)=some u:=z;cases z') (fun b z=>absurd rfl z) fun z=>absurd rfl z
 |none=>
  refine core (fun b=>if b=a then some (.frz {cls:= .type "list",data:= .seq vs.toArray} (.lst (ns.map V.int))) else none) (fun b=>?_) (.inl (.inr ⟨{cls:= .type "list",data:= .seq vs.toArray},if_pos rfl⟩)) (fun b u z=>?_) (fun b z=>?_) fun _=>hk
  ·by_cases hb:b=a
   ·exact .inr ⟨_,_,if_pos hb⟩
   ·exact .inl (if_neg hb)
  ·by_cases hb:b=a
   ·have z':=(if_pos hb).symm.trans z
    cases z'
    subst hb
    exact⟨ha,by rw[List.length_map];exact hl,vs,_,rv,ha⟩
   ·have z':=(if_neg hb).symm.trans z
    cases z'
  ·by_cases hb:b=a
   ·exact hb
   ·exact absurd (if_neg hb) z
abbrev QZ{K:W.Frag}{h:Heap}(_:K.In h):W.Frag:=K
theorem LP{l:PySem.W.OpenLaw}{n k:Nat}{q:Program}{loose:List Str}{XP:(Str→Option Value)→Heap→Prop}{YP:World→Heap→Prop}{d:DefRec}{K:Params→W.Frag}{CX:World→wG}{sp:World→Sp}{x:Str}
 (hn:l.most=some n)(Lu:n≤sizeLine)(JD:d.params.defaults=[])(hr:Room k callerA)
 (hY:∀(w:World) (h:Heap),YP w h→(K w.params).In h)
 (F:∀(w:World) (mg:Str→Option Value) (fa:Addr) (h:Heap),(K w.params).In h→h.Ns mainGlobals mg→mg d.name=some (.ref fa)→
  ∃fd:FuncData,(∀(s:Shared) (u:Value),BindsTo s fd ⟨[u],[]⟩ [(x,u)])∧
   ∀base:Heap,(K w.params).In base→base.Ns mainGlobals mg→FnOk l.prog w (K w.params) mg base (CX w) k fa fd [x] (sp w))
 (DJ:∀(w:World) (H:Hp) (a:Addr) (ns:List Int),ns.length≤n→GD H→SqL (K w.params) H a (ns.map V.int)→sp w [.ref a] H (fun v _=>v= .bl true) fun _ _ _=>False)
 (L8:∀(w:World) (H:Hp) (s:Shared) (e:Value) (s':Shared),CX w [] H s (fun _ _ _=>False) e s'→False):
 PySem.W.WalkO q loose XP YP l.row.toRowW d [] (fun f vs=>PySem.call f vs):=by
 refine Att.attach_call hn JD fun w s₀ s₁ mg mb fa o pm cd doc a vs ns G Y ho hd wC G7 BB hints hlen hg=>?_
 have KX:=hY w _ Y
 obtain⟨fd,hb,hF⟩:=F w mg fa _ KX G.T.g G7
 exact vc KX G.T.g G.T.b G.T.builtins G.T.nolimit hg BB hints (Nat.le_trans hlen Lu) hr hF hb (fun H hO hS=>DJ w H a ns hlen hO hS) fun H e s'=>L8 w H s₁ e s'
abbrev LR:wG:=fun _ _ _ _ _ _=>False
structure Fun (K:W.Frag) (x qual:Str) (st:Stmt) (f:Addr) (fd:FuncData):Prop where
 ex:∃(oc:Value) (od:Option Addr) (kV doc pm:Value) (an:Option Addr) (bc ct:Value) (EO:Array (Option Value)),
  fd=PySem.W.fnOf x qual (eF st) (aR st) (af st) .none kV doc pm an bc ct∧K.lookup f=some ⟨oc,od, .func fd,EO⟩∧PySem.W.codeIn K bc qual=true
 kp:PySem.W.keepIn K (.ref f)=true
section
variable{P:Program}{w:World}{K:W.Frag}{mg:Str→Option Value}{base:Heap}
theorem Fun.ok{x qual:Str}{st:Stmt}{f:Addr}{fd:FuncData}{N ps:List Str}{k:Nat}{sp:Sp}(F:Fun K x qual st f fd)(S:FnScope N ps (af st))(len:∀vs H Q E,sp vs H Q E→vs.length=ps.length)
 (nZ:∀(bc:Value) (A:Around) (outer:List Env) (s:Shared) (H:Hp) (vs:List V) (Q:VK) (E:XK),Room k (A.deeper (envOfC qual (af st) s.heap.objs.size f bc))→sp vs H Q E→
  ∃t,PSs (dj LR P w K mg base N qual (af st) f bc A outer s H E).nox (aR st) t∧t {nx:=fun _ H'=>Q .non H',rt:=Q} (start N vs) H):FnOk P w K mg base LR (k+1) f fd ps sp:=by
 obtain⟨oc,od,kV,doc,pm,an,bc,ct,EO,rfl,lk,wC⟩:=F.ex
 refine FY lk wC S len fun A outer s H vs Q E hr DJ=>?_
 obtain⟨t,h,q⟩:=nZ bc A outer s H vs Q E hr DJ
 exact⟨t,h.nox,q⟩
theorem Fun.binds{x qual:Str}{st:Stmt}{f:Addr}{fd:FuncData}{ps:List Str}(F:Fun K x qual st f fd)
 (h:∀(kV doc pm:Value) (an:Option Addr) (bc ct:Value) (us:List Value),us.length=ps.length→bindArgs (PySem.W.fnOf x qual (eF st) (aR st) (af st) .none kV doc pm an bc ct) ⟨us,[]⟩=pure (ps.zip us)):Binds K fd ps []:=by
 obtain⟨oc,od,kV,doc,pm,an,bc,ct,EO,rfl,lk,wC⟩:=F.ex
 exact .all (h kV doc pm an bc ct)
theorem Bp{x qual:Str}{st:Stmt}{f:Addr}{oc:Value}{od an:Option Addr}{EO:Array (Option Value)}{kV doc pm bc ct:Value}(l:K.lookup f=some ⟨oc,od, .func (PySem.W.fnOf x qual (eF st) (aR st) (af st) .none kV doc pm an bc ct),EO⟩)
 (c:PySem.W.codeIn K bc qual=true)(k:PySem.W.keepIn K (.ref f)=true):Fun K x qual st f (PySem.W.fnOf x qual (eF st) (aR st) (af st) .none kV doc pm an bc ct):=⟨⟨oc,od,kV,doc,pm,an,bc,ct,EO,rfl,l,c⟩,k⟩
end
section
variable{X:Cx}
theorem pv(i:Nat){x:Str}{pos:Pos}(hN:X.N[i]? =some x:=by rfl)(hv:LZ X.env.scope x:=by first | exact Or.inl rfl | exact Or.inr (Or.inl rfl) | exact Or.inr (Or.inr rfl))(hd:(x==("__debug__":Str))=false:=by decide)
 (wC:(x==("__classdict__":Str))=false:=by decide):PE X (.Name x pos) (pG i):=HX hN hv hd wC
end
def Same(H H':Hp):Prop:=∀b o,H b=some o→H' b=some o
theorem Same.refl(H:Hp):Same H H:=fun _ _ h=>h
theorem Same.trans{H H1 H2:Hp}(a:Same H H1)(b:Same H1 H2):Same H H2:=fun c o h=>b c o (a c o h)
theorem Same.free{H H':Hp}(e:Same H H'){l:Addr}(h:H' l=Option.none):H l=Option.none:=by
 cases q:H l with
 |none=>rfl
 |some o=>
  rw[e l o q] at h
  cases h
theorem Same.seq{K:W.Frag}{H H':Hp}{a:Addr}{xs:List V}(e:Same H H')(h:SqL K H a xs):SqL K H' a xs:=by
 rcases h with(h | ⟨o,h⟩) | h
 ·exact .inl (.inl (e _ _ h))
 ·exact .inl (.inr ⟨o,e _ _ h⟩)
 ·exact .inr h
section
variable{κ:Type}[DecidableEq κ]
def kQ(aw:List (κ×V))(k:κ):Option V:=(aw.find? fun kv=>decide (kv.1=k)).map (·.2)
def putK(aw:List (κ×V))(k:κ)(v:V):List (κ×V):=
 if (aw.any fun kv=>decide (kv.1=k))=true then aw.map (fun kv=>if kv.1=k then(kv.1,v) else kv) else aw++[(k,v)]
theorem kS{p:κ×V}{r:List (κ×V)}{k:κ}(e:p.1=k):kQ (p::r) k=some p.2:=by simp[kQ,List.find?_cons,e]
theorem kR{p:κ×V}{r:List (κ×V)}{k:κ}(e:¬p.1=k):kQ (p::r) k=kQ r k:=by simp[kQ,List.find?_cons,e]
theorem pJ(k:κ):∀aw:List (κ×V),(aw.any fun kv=>decide (kv.1=k))=(kQ aw k).isSome
 |[]=>rfl
 |p::r=>by
  rw[List.any_cons]
  by_cases e:p.1=k
  ·simp only[kS e,decide_eq_true e,Bool.true_or,Option.isSome_some]
  ·rw[kR e,decide_eq_false e,Bool.false_or];exact pJ k r
theorem eQ(aw:List (κ×V))(k:κ)(v:V):(putK aw k v).length≤aw.length+1:=by
 unfold putK
 split
 ·rw[List.length_map];omega
 ·rw[List.length_append,List.length_cons,List.length_nil];omega
theorem RelO.isSome_eq{o:Option V}{u:Option Value}(r:RelO o u):o.isSome=u.isSome:=by
 cases o with
 |none=>cases u with
  |none=>rfl
  |some _=>exact(show False from r).elim
 |some _=>cases u with
  |none=>exact(show False from r).elim
  |some _=>rfl
theorem RelO.getD{o:Option V}{u:Option Value}{d:V}{d':Value}(r:RelO o u)(rd:RelV d d'):RelV (o.getD d) (u.getD d'):=by
 cases o with
 |none=>cases u with
  |none=>exact rd
  |some _=>exact(show False from r).elim
 |some _=>cases u with
  |none=>exact(show False from r).elim
  |some _=>exact r
theorem KV.val{aw:List (κ×V)}{vs:List (κ×Value)}(r:KV aw vs)(k:κ):RelO (kQ aw k) (valueAt vs k):=by
 unfold KV at r
 induction r with
 |nil=>exact True.intro
 | @cons p q ps qs h t ih=>
   obtain⟨h1,h2⟩:=h
   by_cases e:p.1=k
   ·have e':q.1=k:=h1.symm.trans e
    have b:valueAt (q::qs) k=some q.2:=by simp[valueAt,List.find?_cons,e']
    rw[kS e,b];exact h2
   ·have e':¬q.1=k:=fun z=>e (h1.trans z)
    have b:valueAt (q::qs) k=valueAt qs k:=by simp[valueAt,List.find?_cons,e']
    rw[kR e,b];exact ih
theorem KV.any{aw:List (κ×V)}{vs:List (κ×Value)}(r:KV aw vs)(k:κ):(aw.any fun kv=>decide (kv.1=k))=vs.any fun kv=>decide (kv.1=k):=by
 unfold KV at r
 induction r with
 |nil=>rfl
 |cons h t ih=>rw[List.any_cons,List.any_cons,ih,h.1]
theorem KV.repl{aw:List (κ×V)}{vs:List (κ×Value)}(r:KV aw vs)(k:κ){y:V}{u:Value}(ry:RelV y u):
 KV (aw.map fun kv=>if kv.1=k then(kv.1,y) else kv) (vs.map fun kv=>if kv.1=k then(kv.1,u) else kv):=by
 unfold KV at r⊢
 induction r with
 |nil=>exact .nil
 | @cons p q ps qs h t ih=>
   rw[List.map_cons,List.map_cons]
   refine .cons ?_ ih
   obtain⟨h1,h2⟩:=h
   by_cases e:p.1=k
   ·rw[if_pos e,if_pos (h1.symm.trans e)];exact⟨h1,ry⟩
   ·rw[if_neg e,if_neg (fun z=>e (h1.trans z))];exact⟨h1,h2⟩
theorem KV.put{aw:List (κ×V)}{vs:List (κ×Value)}(r:KV aw vs)(k:κ){y:V}{u:Value}(ry:RelV y u):KV (putK aw k y) (stored vs k u):=by
 unfold putK stored
 rw[r.any k]
 by_cases e:(vs.any fun kv=>decide (kv.1=k))=true
 ·rw[if_pos e,if_pos e];exact r.repl k ry
 ·rw[if_neg e,if_neg e];exact Paired.snoc r ⟨rfl,ry⟩
theorem KV.length{aw:List (κ×V)}{vs:List (κ×Value)}(r:KV aw vs):aw.length=vs.length:=Paired.length r
end
theorem md{P:Program}{w:World}{k:Key}{u:Value}(r:RelV (kV k) u):(aX P w).is k u=true:=by
 cases k with
 |inl i=>obtain⟨t,e⟩:=(show∃t,u=Value.int i t from r);subst e;exact vj P w i t
 |inr x=>obtain⟨t,e⟩:=(show∃t,u=Value.str x t from r);subst e;exact vk P w x t
theorem qR{P:Program}{w:World}:∀{ks:List Key}{us:List Value},Vals (ks.map kV) us→ItemsAre (aX P w) ks us
 |[],_,r=>by rw[List.map_nil] at r;cases r;exact .nil
 |k::ks,_,r=>by
  rw[List.map_cons] at r
  cases r with
  |cons h t=>exact .cons (md h) (qR t)
abbrev KT(H:Hp):List (List Key×V)→List (List Key×Addr×Value)→Prop:=Paired fun p q=>p.1=q.1∧H q.2.1=some (.tup (p.1.map kV))∧RelV p.2 q.2.2
theorem KT.val{H:Hp}{aw:List (List Key×V)}{xs:List (List Key×Addr×Value)}(r:KT H aw xs)(k:List Key):RelO (kQ aw k) ((atKey xs k).map (·.2)):=by
 induction r with
 |nil=>exact True.intro
 | @cons p q ps qs h t ih=>
   obtain⟨h1,_,h2⟩:=h
   by_cases e:p.1=k
   ·have e':q.1=k:=h1.symm.trans e
    have b:atKey (q::qs) k=some q.2:=by simp[atKey,List.find?_cons,e']
    rw[kS e,b];exact h2
   ·have e':¬q.1=k:=fun z=>e (h1.trans z)
    have b:atKey (q::qs) k=atKey qs k:=by simp[atKey,List.find?_cons,e']
    rw[kR e,b];exact ih
theorem KT.repl{H:Hp}{aw:List (List Key×V)}{xs:List (List Key×Addr×Value)}(r:KT H aw xs)(k:List Key){y:V}{u:Value}(ry:RelV y u):
 KT H (aw.map fun kv=>if kv.1=k then(kv.1,y) else kv) (xs.map (putAt k u)):=by
 induction r with
 |nil=>exact .nil
 | @cons p q ps qs h t ih=>
   rw[List.map_cons,List.map_cons]
   refine .cons ?_ ih
   obtain⟨h1,h2,h3⟩:=h
   unfold putAt
   by_cases e:p.1=k
   ·rw[if_pos e,if_pos (h1.symm.trans e)];exact⟨h1,h2,ry⟩
   ·rw[if_neg e,if_neg (fun z=>e (h1.trans z))];exact⟨h1,h2,h3⟩
theorem KT.put{H:Hp}{aw:List (List Key×V)}{xs:List (List Key×Addr×Value)}(r:KT H aw xs)(k:List Key){b:Addr}{y:V}{u:Value}(hb:H b=some (.tup (k.map kV)))(ry:RelV y u):
 KT H (putK aw k y) (storedH xs k b u):=by
 have e:(aw.any fun kv=>decide (kv.1=k))=(atKey xs k).isSome:=by
  rw[pJ,(r.val k).isSome_eq,Option.isSome_map]
 unfold putK storedH
 rw[e]
 by_cases q:(atKey xs k).isSome=true
 ·rw[if_pos q,if_pos q];exact r.repl k ry
 ·rw[if_neg q,if_neg q];exact Paired.snoc r ⟨rfl,hb,ry⟩
theorem KT.keeps{H H':Hp}{aw:List (List Key×V)}{xs:List (List Key×Addr×Value)}(r:KT H aw xs)(ht:∀b ys,H b=some (.tup ys)→H' b=some (.tup ys)):KT H' aw xs:=
 Paired.mapP r fun _ _ z=>⟨z.1,ht _ _ z.2.1,z.2.2⟩
section
variable{P:Program}{w:World}{H:Hp}{h:Heap}{a:Addr}
theorem Gu{u:HO}(ok:HOk P w H h)(e:Rd H a u):ObjOk P w H h a u:=e.ok ok
theorem l9{aw:List (Key×V)}(ok:HOk P w H h)(e:Rd H a (.dK aw)):aw.length≤sizeLine∧(a==sysModules)=false∧∃vs,KV aw vs∧h.DictOf (aX P w) a vs:=
 show ObjOk P w H h a (.dK aw) from Gu ok e
theorem FV{aw:List (Key×V)}(ok:HOk P w H h)(e:H a=some (.dK aw)):aw.length≤sizeLine∧(a==sysModules)=false∧∃vs,KV aw vs∧h.DictOf (aX P w) a vs:=l9 ok (.inl e)
theorem iC{ks:List Key}(ok:HOk P w H h)(e:H a=some (.tup (ks.map kV))):(tupleKind (aX P w)).is h ks a:=by
 obtain⟨_,aB,r,o,h1,h2,n,h3⟩:=(show ObjOk P w H h a (.tup (ks.map kV)) from ok a _ e)
 exact⟨o,aB.toArray,n,h1,h2,h3,by simpa using qR r⟩
theorem j9{aw:List (List Key×V)}(ok:HOk P w H h)(e:Rd H a (.dT aw)):aw.length≤sizeLine∧(a==sysModules)=false∧
 ∃xs,KT H aw xs∧h.DictOfH (tupleKind (aX P w)) a xs:=by
 obtain⟨z,y,xs,r,o,es,ep,h1,h2,h3,h4,h5⟩:=(show ObjOk P w H h a (.dT aw) from Gu ok e)
 refine⟨z,y,xs,r,o,es,ep,h1,h2,h3,h4,fun x hx=>?_,h5⟩
 have all:∀{l:List (List Key×V)}{m:List (List Key×Addr×Value)},KT H l m→∀x∈m,(tupleKind (aX P w)).is h x.1 x.2.1:=by
  intro l m q
  induction q with
  |nil=>intro x hx;exact nomatch hx
  | @cons p q ps qs hq t ih=>
    intro x hx
    rcases List.mem_cons.mp hx with e | hx
    ·subst e
     exact iC ok (by rw[←hq.1];exact hq.2.1)
    ·exact ih x hx
 exact all r x hx
theorem Bd{aw:List (List Key×V)}(ok:HOk P w H h)(e:H a=some (.dT aw)):aw.length≤sizeLine∧(a==sysModules)=false∧
 ∃xs,KT H aw xs∧h.DictOfH (tupleKind (aX P w)) a xs:=j9 ok (.inl e)
end
def jK(H:Hp)(a:Addr)(y:V)(r:Option V):Prop:=
 (∃aw k,Rd H a (.dK aw)∧y=kV k∧r=kQ aw k)∨∃aw k b,Rd H a (.dT aw)∧y= .ref b∧H b=some (.tup (k.map kV))∧r=kQ aw k
def DPut(H:Hp)(a:Addr)(y v:V)(H':Hp):Prop:=
 (∃aw k,H a=some (.dK aw)∧y=kV k∧aw.length<sizeLine∧H'=upd H a (.dK (putK aw k v)))∨
 ∃aw k b,H a=some (.dT aw)∧y= .ref b∧H b=some (.tup (k.map kV))∧aw.length<sizeLine∧H'=upd H a (.dT (putK aw k v))
theorem DPut.k{H:Hp}{a:Addr}{aw:List (Key×V)}{k:Key}{v:V}(e:H a=some (.dK aw))(hl:aw.length<sizeLine):DPut H a (kV k) v (upd H a (.dK (putK aw k v))):= .inl ⟨aw,k,e,rfl,hl,rfl⟩
theorem DPut.t{H:Hp}{a b:Addr}{aw:List (List Key×V)}{k:List Key}{v:V}(e:H a=some (.dT aw))(eb:H b=some (.tup (k.map kV)))(hl:aw.length<sizeLine):
 DPut H a (.ref b) v (upd H a (.dT (putK aw k v))):= .inr ⟨aw,k,b,e,rfl,eb,hl,rfl⟩
section
variable{X:Cx}{pins:List (Addr×Obj)}{σ:St}{H:Hp}{s:Shared}{a:Addr}{y v:V}{u r:Value}{o:Option V}{A:Around}{E:Value→Shared→Prop}
theorem Inv.big(I:Inv X pins σ H s):sysModules<s.heap.objs.size:=by
 have h:mainGlobals<s.heap.objs.size:=(I.mod.glob.keeps I.bk).lt
 exact Nat.lt_trans (by decide) h
theorem zB{Q:Value→Shared→Prop}(hu:A.units+1<cLine)(I:Inv X pins σ H s)(g:jK H a y (some v))(ry:RelV y u)(h:∀w' s',Inv X pins σ H s'→RelV v w'→Q w' s'):
 wpAny (model X.prog X.w) A (getItem (.ref a) u) Q E s:=by
 rcases g with⟨aw,k,e,ey,l⟩ | ⟨aw,k,b,e,ey,eb,l⟩
 ·subst ey
  obtain⟨z,hd,vs,rel,dd⟩:=l9 I.hok e
  obtain⟨w',hw,wD⟩:=RelO.some_of (v:=v) (o:=valueAt vs k) (by rw[l];exact rel.val k)
  exact wpAny_getItem_of (md ry) dd.mapOf hw (h w' _ (I.tok _) wD)
 ·subst ey
  cases (show u=Value.ref b from ry)
  obtain⟨z,hd,xs,rel,dd⟩:=j9 I.hok e
  obtain⟨w',hw,wD⟩:=RelO.some_of (v:=v) (o:=(atKey xs k).map (·.2)) (by rw[l];exact rel.val k)
  obtain⟨p,hp,MG⟩:=Option.map_eq_some_iff.mp hw
  refine wpAny_getItem_heap (tupleKind_room_in1 hu) (iC I.hok eb) dd hp ?_
  rw[MG]
  exact h w' _ (I.tok _) wD
theorem Jk{Q:Value→Shared→Prop}(hu:A.units+1<cLine)(I:Inv X pins σ H s)(g:jK H a y o)(ry:RelV y u)(h:∀s',Inv X pins σ H s'→Q (.bool o.isSome) s'):
 wpAny (model X.prog X.w) A (compareOp .In u (.ref a)) Q E s:=by
 rcases g with⟨aw,k,e,ey,l⟩ | ⟨aw,k,b,e,ey,eb,l⟩
 ·subst ey
  obtain⟨z,hd,vs,rel,dd⟩:=l9 I.hok e
  refine wpAny_in_of (md ry) hd dd.mapOf ?_
  rw[←(rel.val k).isSome_eq,←l]
  exact h _ (I.tok _)
 ·subst ey
  cases (show u=Value.ref b from ry)
  obtain⟨z,hd,xs,rel,dd⟩:=j9 I.hok e
  refine wpAny_in_heap (tupleKind_room_in1 hu) (iC I.hok eb) hd dd ?_
  have q:=(rel.val k).isSome_eq
  rw[Option.isSome_map] at q
  rw[←q,←l]
  exact h _ (I.tok _)
theorem DY{Q:Value→Shared→Prop}(hu:A.units+1<cLine)(I:Inv X pins σ H s)(g:jK H a y o)(ry:RelV y u)(h:∀s',Inv X pins σ H s'→Q (.bool (!o.isSome)) s'):
 wpAny (model X.prog X.w) A (compareOp .NotIn u (.ref a)) Q E s:=by
 rcases g with⟨aw,k,e,ey,l⟩ | ⟨aw,k,b,e,ey,eb,l⟩
 ·subst ey
  obtain⟨z,hd,vs,rel,dd⟩:=l9 I.hok e
  refine wpAny_notIn_of (md ry) hd dd.mapOf ?_
  rw[←(rel.val k).isSome_eq,←l]
  exact h _ (I.tok _)
 ·subst ey
  cases (show u=Value.ref b from ry)
  obtain⟨z,hd,xs,rel,dd⟩:=j9 I.hok e
  refine wpAny_notIn_heap (tupleKind_room_in1 hu) (iC I.hok eb) hd dd ?_
  have q:=(rel.val k).isSome_eq
  rw[Option.isSome_map] at q
  rw[←q,←l]
  exact h _ (I.tok _)
theorem j8{h':Heap}{t':Nat}{ob:HO}(I:Inv X pins σ H s)(mu:I8 (H a))(hs:Heap.SameBut a s.heap h')(he:∃q,h'.get? a=some q)(new:ObjOk X.prog X.w (upd H a ob) h' a ob):
 Inv X pins σ (upd H a ob) {s with heap:=h',toks:=t'}:=
 I.write (x:=a) (e:=a) mu (.inl rfl) (fun b q hb z=>(hs.2 b hb).trans z) he new
theorem Bc{P:Program}{w:World}{H':Hp}{h':Heap}{aw:List (Key×V)}{vs:List (Key×Value)}(z:aw.length≤sizeLine)(hd:(a==sysModules)=false)(rel:KV aw vs)(dd:h'.DictOf (aX P w) a vs):
 ObjOk P w H' h' a (.dK aw):=⟨z,hd,vs,rel,dd⟩
theorem zC{H':Hp}{Q:Unit→Shared→Prop}(hu:A.units+1<cLine)(I:Inv X pins σ H s)(g:DPut H a y v H')(ry:RelV y u)(rv:RelV v r)(h:∀s',Inv X pins σ H' s'→Q () s'):
 wpAny (model X.prog X.w) A (setItem (.ref a) u r) Q E s:=by
 rcases g with⟨aw,k,e,ey,l,eH⟩ | ⟨aw,k,b,e,ey,eb,l,eH⟩
 ·subst ey eH
  obtain⟨z,hd,vs,rel,dd⟩:=FV I.hok e
  have hz:vs.length≤sizeLine:=by rw[←rel.length];exact z
  have hl:(putK aw k v).length≤sizeLine:=by have:=eQ aw k v;omega
  refine wpAny_setItem_pairs (hsz:=hz) (md ry) dd fun h' A_ hs=>h _ ?_
  have he:∃q,h'.get? a=some q:=let ⟨q,_,_,hq,_⟩:=A_;⟨q,hq⟩
  exact j8 I (by rw[e];exact True.intro) hs he (Bc hl hd (rel.put k rv) A_)
 ·subst ey eH
  cases (show u=Value.ref b from ry)
  obtain⟨z,hd,xs,rel,dd⟩:=Bd I.hok e
  have hz:xs.length≤sizeLine:=by rw[←Paired.length rel];exact z
  have hl:(putK aw k v).length≤sizeLine:=by have:=eQ aw k v;omega
  refine wpAny_setItem_heap (hsz:=hz) (tupleKind_room_in1 hu) (iC I.hok eb) dd fun h' A_ hs=>h _ ?_
  obtain⟨q,es,ep,hq,h2,h3,h4,_,h5⟩:=A_
  refine j8 I (by rw[e];exact True.intro) hs ⟨q,hq⟩ ⟨hl,hd,_,(rel.put k eb rv).keeps fun c ys ec=>?_,q,es,ep,hq,h2,h3,h4,h5⟩
  rw[ax (B5 ec e (fun z=>nomatch z))]
  exact ec
end
section
variable{X:Cx}{pins:List (Addr×Obj)}{σ:St}{H:Hp}{s:Shared}{a:Addr}{aw:List (Key×V)}{k:Key}{u:Value}{A:Around}{E:Value→Shared→Prop}
end
def GC(i:Expr):Prop:=∀ov iv,subscripted i false ov iv=operate [ov,iv] (getItem ov iv)
theorem FE{prog:Program}{w:World}{A:Around}{E:Value→Shared→Prop}{s:Shared}{env:Env}{value slice:Expr}{pos:Pos}{T id:String}{Q:Value→Shared→Prop}
 (hl:typeLookup (.type T) "__getitem__"=pure (some (.builtin id)))(hs:GC slice)
 (h:wpAny (model prog w) A (eval value env) (fun o s₁=>wpAny (model prog w) A (eval slice env) (fun i s₂=>s₂.TypeIs o T∧wpAny (model prog w) A (getItem o i) Q E s₂) E s₁) E s):
 wpAny (model prog w) A (eval (.Subscript value slice pos) env) Q E s:=by
 refine Subscript_ (wpAny_mono h (fun o s₁ h₁=>wpAny_mono h₁ (fun i s₂ h₂=>?_) fun _ _ x=>x) fun _ _ x=>x)
 obtain⟨hT,h₂⟩:=h₂
 unfold subscriptTail
 refine wpAny_bind ?_
 rw[getitemInPython_of_ne hT.not_modules]
 refine wpAny_bind (wpAny_specialOf hT hl ?_)
 have fin:wpAny (model prog w) A (subscripted slice false o i) (fun r s₃=>wpAny (model prog w) A (letTemporaryGo value o r>>=fun _=>pure r) Q E s₃) E s₂:=by
  rw[hs o i]
  exact wpAny_operating (wpAny_mono h₂ (fun r s₃ h₃=>wpAny_bind (wpAny_letTemporaryGo (wpAny_pure h₃))) fun _ _ x=>x)
 first
  |exact wpAny_pure (wpAny_bind fin)
  |exact wpAny_bind (wpAny_pure (wpAny_bind fin))
  |exact wpAny_bind fin
theorem uO{X:Cx}{pins:List (Addr×Obj)}{σ:St}{H:Hp}{s:Shared}{a:Addr}{y:V}{o:Option V}(I:Inv X pins σ H s)(g:jK H a y o):s.TypeIs (.ref a) "dict":=by
 rcases g with⟨aw,k,e,_,_⟩ | ⟨aw,k,b,e,_,_,_⟩
 ·obtain⟨_,_,vs,_,dd⟩:=l9 I.hok e
  exact dd.typeIs
 ·obtain⟨_,_,xs,_,dd⟩:=j9 I.hok e
  exact dd.typeIs
def K2(td ty:TE):TE:=fun σ H Q=>td σ H fun x H1=>ty σ H1 fun y H2=>∃a v,x= .ref a∧jK H2 a y (some v)∧Q v H2
def Nq(ty td:TE):TE:=fun σ H Q=>ty σ H fun y H1=>td σ H1 fun x H2=>∃a o,x= .ref a∧jK H2 a y o∧Q (.bl o.isSome) H2
def KU(td ty tv:TE):TS:=fun D σ H=>tv σ H fun v H1=>td σ H1 fun x H2=>ty σ H2 fun y H3=>∃a H4,x= .ref a∧DPut H3 a y v H4∧D.nx σ H4
section
variable{X:Cx}{o i e value:Expr}{pos pos' NA:Pos}{td ty tv:TE}
theorem E5(hu:X.A.units+1<cLine)(ho:PE X o td)(hi:PE X i ty)(hs:GC i):PE X (.Subscript o i pos) (K2 td ty):=by
 intro pins s σ H Q I h
 refine FE PySem.F.slot_dict_getitem.lookup hs (bN (ho pins s σ H _ I h) fun u s1 ⟨x,H1,I1,rx,q1⟩=>bN (hi pins s1 σ H1 _ I1 q1) fun iv s2 ⟨y,H2,I2,ry,a,v,ex,g,q2⟩=>?_)
 subst ex
 obtain rfl:u=Value.ref a:=rx
 exact⟨uO I2 g,zB hu I2 g ry fun w' s3 I3 wD=>⟨v,H2,I3,wD,q2⟩⟩
theorem HH(hu:X.A.units+1<cLine)(hi:PE X i ty)(ho:PE X o td):PC X .In i o (Nq ty td):=by
 intro pins s σ H Q I h
 refine bN (hi pins s σ H _ I h) fun iv s1 ⟨y,H1,I1,ry,q1⟩=>bN (ho pins s1 σ H1 _ I1 q1) fun u s2 ⟨x,H2,I2,rx,a,ov,ex,g,q2⟩=>?_
 subst ex
 obtain rfl:u=Value.ref a:=rx
 exact Jk hu I2 g ry fun s3 I3=>⟨.bl ov.isSome,H2,I3,rfl,q2⟩
theorem Fb(hu:X.A.units+1<cLine)(ho:PE X o td)(hi:PE X i ty)(hv:PE X value tv)(hs:swapsWith value (some (.Subscript o i pos')) pos.line X.env=pure false):
 PS X (.Assign [.Subscript o i pos'] value pos) (KU td ty tv):=by
 intro pins s σ H D I h
 refine wpAny_Assign_Subscript (bN (hv pins s σ H _ I h) fun r s1 ⟨v,H1,I1,rv,q1⟩=>bN (ho pins s1 σ H1 _ I1 q1) fun u s2 ⟨x,H2,I2,rx,q2⟩=>bN (hi pins s2 σ H2 _ I2 q2) fun iv s3 ⟨y,H3,I3,ry,a,H4,ex,g,q3⟩=>?_) hs
 subst ex
 obtain rfl:u=Value.ref a:=rx
 exact zC hu I3 g ry rv fun s4 I4=>⟨σ,H4,I4,q3⟩
end
theorem uP{P:Program}{w:World}{H:Hp}(h:Heap)(hb:sysModules<h.objs.size):ObjOk P w H (h.push {cls:= .type "dict",data:= .dict #[]}) h.objs.size (.dT []):=
 ⟨Nat.zero_le _,beq_eq_false_iff_ne.mpr (Ne.symm (Nat.ne_of_lt hb)),[], .nil,_,#[],0,Heap.get?_push_size _ rfl,⟨rfl,rfl,rfl⟩,rfl,rfl,List.nodup_nil⟩
def Iw:TE:=fun _ H Q=>∀p,H p=none→Q (.ref p) (upd H p (.dT []))
section
variable{X:Cx}{pos:Pos}
theorem CI:PE X (.Dict [] [] pos) Iw:=fun pins s σ H Q I h=>
 wpAny_Dict_empty ⟨.ref s.heap.objs.size,_,I.laid (a:=s.heap.objs.size) (o:= .dT []) (t':=s.toks) (fun _ _ q=>Heap.get?_push_of_some _ q) (Nat.le_refl _) (uP s.heap I.big),rfl,h _ (I.hok.fresh (Nat.le_refl _))⟩
end
def Dm:List (TE×TE)→St→Hp→(List (V×V)→Hp→Prop)→Prop
 |[],_,H,Q=>Q [] H
 |(tk,tv)::r,σ,H,Q=>tk σ H fun x H1=>tv σ H1 fun y H2=>Dm r σ H2 fun ps H3=>Q ((x,y)::ps) H3
abbrev VV:List (V×V)→List (Value×Value)→Prop:=Paired fun p q=>RelV p.1 q.1∧RelV p.2 q.2
def LV(X:Cx)(pos:Pos)(keys:List (Option Expr))(values:List Expr)(LO:List (TE×TE)):Prop:=
 ∀(pins:List (Addr×Obj)) (s:Shared) (σ:St) (H:Hp) (Q:List (V×V)→Hp→Prop),Inv X pins σ H s→Dm LO σ H Q→
  wpAny (model X.prog X.w) X.A (evalPairs (pairTrees keys values X.env pos)) (fun vs s'=>∃ps H',Inv X pins σ H' s'∧VV ps vs∧Q ps H') X.xe s
theorem E_{X:Cx}{pos:Pos}:LV X pos [] [] []:=fun pins s σ H Q I h=>pairTrees_nil_walk ⟨[],H,I, .nil,h⟩
theorem CM{X:Cx}{pos:Pos}{k v:Expr}{ks:List (Option Expr)}{vs:List Expr}{tk tv:TE}{LO:List (TE×TE)}(hk:PE X k tk)(hv:PE X v tv)(hr:LV X pos ks vs LO):
 LV X pos (some k::ks) (v::vs) ((tk,tv)::LO):=fun pins s σ H Q I h=>
 pairTrees_cons_walk (bN (hk pins s σ H _ I h) fun u s1 ⟨x,H1,I1,rx,q1⟩=>bN (hv pins s1 σ H1 _ I1 q1) fun w2 s2 ⟨y,H2,I2,ry,q2⟩=>
  bN (hr pins s2 σ H2 _ I2 q2) fun ws s3 ⟨ps,H3,I3,rel,q3⟩=>⟨(x,y)::ps,H3,I3, .cons ⟨rx,ry⟩ rel,q3⟩)
structure M1 (X:Cx) (o:Expr) (m:Str) (apos:Pos) (e:Expr) (aT:Pos):Prop where
 base:attributeBase o m X.env (eval o X.env)=eval o X.env
 few:((backTo aT (starEach [e] X.env)).all (fun x=>!x.1)&&(backToKw aT (keywordEach [] X.env)).all (fun x=>x.1.isSome)
  &&decide (([e]:List Expr).length+([]:List Keyword).length+(if ([]:List Keyword).isEmpty then 0 else 1)<30))=true
 line:(apos.endLine==aT.line)=true
 trees:backTo aT (starEach [e] X.env)=[(false,eval e X.env)]
structure M2 (X:Cx) (o:Expr) (m:Str) (apos:Pos) (e f:Expr) (aT:Pos):Prop where
 base:attributeBase o m X.env (eval o X.env)=eval o X.env
 few:((backTo aT (starEach [e,f] X.env)).all (fun x=>!x.1)&&(backToKw aT (keywordEach [] X.env)).all (fun x=>x.1.isSome)
  &&decide (([e,f]:List Expr).length+([]:List Keyword).length+(if ([]:List Keyword).isEmpty then 0 else 1)<30))=true
 line:(apos.endLine==aT.line)=true
 trees:backTo aT (starEach [e,f] X.env)=[(false,eval e X.env),(false,eval f X.env)]
def IV(H:Hp)(a:Addr):Prop:=(∃aw,Rd H a (.dK aw))∨∃aw,Rd H a (.dT aw)
theorem xa{X:Cx}{pins:List (Addr×Obj)}{σ:St}{H:Hp}{s:Shared}{a:Addr}(I:Inv X pins σ H s)(d:IV H a):
 s.TypeIs (.ref a) "dict"∧(∀b,Value.ref a= .ref b→∃ob,s.heap.get? b=some ob∧ob.dict=none)∧(a==sysModules)=false:=by
 rcases d with⟨aw,e⟩ | ⟨aw,e⟩
 ·obtain⟨_,hd,vs,_,dd⟩:=l9 I.hok e
  refine⟨dd.typeIs,fun b q=>?_,hd⟩
  cases q
  obtain⟨ob,_,_,h1,h2,_⟩:=dd
  exact⟨ob,h1,h2.2.1⟩
 ·obtain⟨_,hd,xs,_,dd⟩:=j9 I.hok e
  refine⟨dd.typeIs,fun b q=>?_,hd⟩
  cases q
  obtain⟨ob,_,_,h1,h2,_⟩:=dd
  exact⟨ob,h1,h2.2.1⟩
section
variable{X:Cx}{pins:List (Addr×Obj)}{σ:St}{H:Hp}{s:Shared}{a:Addr}{y d:V}{u r:Value}{o:Option V}{A:Around}{E:Value→Shared→Prop}
theorem GN{Q:Value→Shared→Prop}(hu:A.units+1<cLine)(I:Inv X pins σ H s)(g:jK H a y o)(ry:RelV y u)(h:∀w' s',Inv X pins σ H s'→RelV (o.getD .non) w'→Q w' s'):
 wpAny (model X.prog X.w) A (call (.builtin "dict.get") [.ref a,u]) Q E s:=by
 rcases g with⟨aw,k,e,ey,l⟩ | ⟨aw,k,b,e,ey,eb,l⟩
 ·subst ey
  obtain⟨z,hd,vs,rel,dd⟩:=l9 I.hok e
  refine call_meetsIn PySem.F.slot_dict_get dd.typeIs PySem.F.entry_dict_get (PySem.F.args_dict_get_2 _ _) (meets_dict_get (aX X.prog X.w) a (md ry) hd) ⟨_,dd.mapOf,h _ _ (I.tok _) ?_⟩
  rw[l]
  exact(rel.val k).getD rfl
 ·subst ey
  cases (show u=Value.ref b from ry)
  obtain⟨z,hd,xs,rel,dd⟩:=j9 I.hok e
  refine call_meetsIn PySem.F.slot_dict_get dd.typeIs PySem.F.entry_dict_get (PySem.F.args_dict_get_2 _ _) (meetsH_dict_get (tupleKind (aX X.prog X.w)) a b hd) ⟨tupleKind_room_in1 hu,k,xs,iC I.hok eb,dd,h _ _ (I.tok _) ?_⟩
  rw[l]
  exact(rel.val k).getD rfl
theorem GO{Q:Value→Shared→Prop}(hu:A.units+1<cLine)(I:Inv X pins σ H s)(g:jK H a y o)(ry:RelV y u)(rd:RelV d r)(h:∀w' s',Inv X pins σ H s'→RelV (o.getD d) w'→Q w' s'):
 wpAny (model X.prog X.w) A (call (.builtin "dict.get") [.ref a,u,r]) Q E s:=by
 rcases g with⟨aw,k,e,ey,l⟩ | ⟨aw,k,b,e,ey,eb,l⟩
 ·subst ey
  obtain⟨z,hd,vs,rel,dd⟩:=l9 I.hok e
  refine call_meetsIn PySem.F.slot_dict_get dd.typeIs PySem.F.entry_dict_get (PySem.F.args_dict_get_3 _ _ _) (meets_dict_get_default (aX X.prog X.w) a (md ry) hd r) ⟨_,dd.mapOf,h _ _ (I.tok _) ?_⟩
  rw[l]
  exact(rel.val k).getD rd
 ·subst ey
  cases (show u=Value.ref b from ry)
  obtain⟨z,hd,xs,rel,dd⟩:=j9 I.hok e
  refine call_meetsIn PySem.F.slot_dict_get dd.typeIs PySem.F.entry_dict_get (PySem.F.args_dict_get_3 _ _ _) (meetsH_dict_get_default (tupleKind (aX X.prog X.w)) a b hd r) ⟨tupleKind_room_in1 hu,k,xs,iC I.hok eb,dd,h _ _ (I.tok _) ?_⟩
  rw[l]
  exact(rel.val k).getD rd
end
def Iu(td ty:TE):TE:=fun σ H Q=>td σ H fun x H1=>∃a,x= .ref a∧IV H1 a∧ty σ H1 fun y H2=>∃o,jK H2 a y o∧Q (o.getD .non) H2
def Iv(td ty tx:TE):TE:=fun σ H Q=>td σ H fun x H1=>∃a,x= .ref a∧IV H1 a∧ty σ H1 fun y H2=>tx σ H2 fun z H3=>∃o,jK H3 a y o∧Q (o.getD z) H3
section
variable{X:Cx}{o e f:Expr}{apos aT:Pos}{td ty tx:TE}
theorem CG(hu:X.A.units+1<cLine)(ho:PE X o td)(he:PE X e ty)(m:M1 X o "get" apos e aT):PE X (.Call (.Attribute o "get" apos) [e] [] aT) (Iu td ty):=by
 intro pins s σ H Q I h
 refine wpAny_Call_method m.base m.few m.line PySem.F.plainAttrs_dict PySem.F.slot_dict_get PySem.F.type_dict_get (bN (ho pins s σ H _ I h) fun u s1 ⟨x,H1,I1,rx,a,ex,d,q1⟩=>?_)
 subst ex
 obtain rfl:u=Value.ref a:=rx
 obtain⟨t1,t2,_⟩:=xa I1 d
 refine⟨t1,t2,?_⟩
 rw[m.trees]
 refine Calls.callWith_builtin rfl (Calls.evalArgs_plain (Calls.spliced_cons (bN (he pins s1 σ H1 _ I1 q1) fun iv s2 ⟨y,H2,I2,ry,ov,g,q2⟩=>Calls.spliced_nil ?_)))
 exact GN hu I2 g ry fun w' s3 I3 wD=>⟨_,H2,I3,wD,q2⟩
theorem CH(hu:X.A.units+1<cLine)(ho:PE X o td)(he:PE X e ty)(hf:PE X f tx)(m:M2 X o "get" apos e f aT):PE X (.Call (.Attribute o "get" apos) [e,f] [] aT) (Iv td ty tx):=by
 intro pins s σ H Q I h
 refine wpAny_Call_method m.base m.few m.line PySem.F.plainAttrs_dict PySem.F.slot_dict_get PySem.F.type_dict_get (bN (ho pins s σ H _ I h) fun u s1 ⟨x,H1,I1,rx,a,ex,d,q1⟩=>?_)
 subst ex
 obtain rfl:u=Value.ref a:=rx
 obtain⟨t1,t2,_⟩:=xa I1 d
 refine⟨t1,t2,?_⟩
 rw[m.trees]
 refine Calls.callWith_builtin rfl (Calls.evalArgs_plain (Calls.spliced_cons (bN (he pins s1 σ H1 _ I1 q1) fun iv s2 ⟨y,H2,I2,ry,q2⟩=>
  Calls.spliced_cons (bN (hf pins s2 σ H2 _ I2 q2) fun fv s3 ⟨z,H3,I3,rz,ov,g,q3⟩=>Calls.spliced_nil ?_))))
 exact GO hu I3 g ry rz fun w' s4 I4 wD=>⟨_,H3,I4,wD,q3⟩
end
section
variable{X:Cx}{pins:List (Addr×Obj)}{σ:St}{H:Hp}{s:Shared}{a:Addr}{aw:List (Key×V)}{A:Around}{E:Value→Shared→Prop}
end
section
variable{X:Cx}{pins:List (Addr×Obj)}{σ:St}{H:Hp}{s:Shared}{a:Addr}{y:V}{u:Value}{A:Around}{E:Value→Shared→Prop}
end
end L2
namespace L3
open PySem PySem.Spec L2
open PyProof.Rows hiding St
inductive Rs (α:Type) where
 |ok (a:α) | ex (n:Nat)
def M(α:Type):=Option (Rs α)
def M.ret{α:Type}(a:α):M α:=some (.ok a)
def M.bind{α β:Type}(m:M α)(k:α→M β):M β:=match m with
 |none=>none
 |some (.ex n)=>some (.ex n)
 |some (.ok a)=>k a
def M.stuck{α:Type}:M α:=none
def M.raise{α:Type}(n:Nat):M α:=some (.ex n)
instance:Monad M where
 pure:=M.ret
 bind:=M.bind
@[simp] theorem au{α β:Type}(a:α)(k:α→M β):(M.ret a>>=k)=k a:=rfl
@[simp] theorem GI{α β:Type}(a:α)(k:α→M β):((pure a:M α)>>=k)=k a:=rfl
@[simp] theorem GJ{α β:Type}(n:Nat)(k:α→M β):(M.raise n>>=k)=M.raise n:=rfl
@[simp] theorem GK{α β:Type}(k:α→M β):((M.stuck:M α)>>=k)=M.stuck:=rfl
theorem M.cs{α:Type}(m:M α):m=M.stuck∨(∃n,m=M.raise n)∨∃a,m=M.ret a:=by
 match m with
 |none=>exact .inl rfl
 |some (.ex n)=>exact .inr (.inl ⟨n,rfl⟩)
 |some (.ok a)=>exact .inr (.inr ⟨a,rfl⟩)
theorem fb{α:Type}{a b:α}(h:M.ret a=M.ret b):a=b:=by
 have h:some (Rs.ok a)=some (Rs.ok b):=h
 cases h
 rfl
theorem fR{α:Type}{a:α}(h:M.stuck=M.ret a):False:=by
 have h:none=some (Rs.ok a):=h
 cases h
theorem C0{α:Type}{n:Nat}{a:α}(h:M.raise n=M.ret a):False:=by
 have h:some (Rs.ex n)=some (Rs.ok a):=h
 cases h
theorem gM{α β:Type}{m:M α}{k:α→M β}{r:β}(h:(m>>=k)=M.ret r):∃a,m=M.ret a∧k a=M.ret r:=by
 rcases m.cs with e | ⟨n,e⟩ | ⟨a,e⟩
 ·subst e;exact(fR h).elim
 ·subst e;exact(C0 h).elim
 ·subst e;exact⟨a,rfl,h⟩
def IW(h:Heap)(ea D:Addr):Prop:=∃ox,h.get? ea=some ox∧ox.cls= .ref D
def OU(ea D:Addr):HO:= .ext fun h=>IW h ea D
inductive D where
 |non | bl (b:Bool) | int (i:Int) | str (x:Str) | raw (v:V) | exc (C:Addr) | scr (l:List Int) | tup (l:List D) | lst (l:List D)
 |dct (ks:List (List Key)) (l:List D) | dci (ks:List Key) (l:List D)
instance:Inhabited D:=⟨.non⟩
def lim:Nat:=4096
theorem eX:lim<sizeLine:=by rw[sizeLine_eq];decide
mutual
def Den(K:W.Frag)(F:Hp):D→V→Prop
 | .non,v=>v= .non
 | .bl b,v=>v= .bl b
 | .int i,v=>v= .int i
 | .str x,v=>v= .str x∧x.length≤lim
 | .raw u,v=>v=u
 | .exc C,v=>∃ea,v= .ref ea∧F ea=some (OU ea C)
 | .scr ns,v=>∃a,v= .ref a∧SqL K F a (ns.map V.int)∧ns.length≤lim
 | .tup ds,v=>∃a vs,v= .ref a∧F a=some (.tup vs)∧DenL K F ds vs∧ds.length≤lim
 | .lst ds,v=>∃a vs,v= .ref a∧F a=some (.lst vs)∧DenL K F ds vs∧ds.length≤lim
 | .dct ks ds,v=>∃a ob vs,v= .ref a∧F a=some (.frz ob (.dT (ks.zip vs)))∧DenL K F ds vs∧ks.length=ds.length∧ds.length≤lim
 | .dci ks ds,v=>∃a ob vs,v= .ref a∧F a=some (.frz ob (.dK (ks.zip vs)))∧DenL K F ds vs∧ks.length=ds.length∧ds.length≤lim
def DenL(K:W.Frag)(F:Hp):List D→List V→Prop
 |[],vs=>vs=[]
 |d::ds,vs=>∃v r,vs=v::r∧Den K F d v∧DenL K F ds r
end
theorem Same.rd{H H':Hp}{a:Addr}{u:HO}(e:Same H H')(h:Rd H a u):Rd H' a u:=by
 rcases h with h | ⟨o,h⟩
 ·exact .inl (e _ _ h)
 ·exact .inr ⟨o,e _ _ h⟩
theorem Same.tup{K:W.Frag}{H H':Hp}{a:Addr}{xs:List V}(e:Same H H')(h:SqT K H a xs):SqT K H' a xs:=by
 rcases h with h | h
 ·exact .inl (Same.rd e h)
 ·exact .inr h
section
variable{K:W.Frag}{F F':Hp}
mutual
theorem Den.mono(e:Same F F'):∀{d:D}{v:V},Den K F d v→Den K F' d v
 | .non,_,h=>h
 | .bl _,_,h=>h
 | .int _,_,h=>h
 | .str _,_,h=>h
 | .raw _,_,h=>h
 | .exc _,_,⟨a,h1,h2⟩=>⟨a,h1,e _ _ h2⟩
 | .scr _,_,⟨a,h1,h2,h3⟩=>⟨a,h1,Same.seq e h2,h3⟩
 | .tup _,_,⟨a,vs,h1,h2,h3,h4⟩=>⟨a,vs,h1,e _ _ h2,DenL.mono e h3,h4⟩
 | .lst _,_,⟨a,vs,h1,h2,h3,h4⟩=>⟨a,vs,h1,e _ _ h2,DenL.mono e h3,h4⟩
 | .dct _ _,_,⟨a,ob,vs,h1,h2,h3,h4⟩=>⟨a,ob,vs,h1,e _ _ h2,DenL.mono e h3,h4⟩
 | .dci _ _,_,⟨a,ob,vs,h1,h2,h3,h4⟩=>⟨a,ob,vs,h1,e _ _ h2,DenL.mono e h3,h4⟩
theorem DenL.mono(e:Same F F'):∀{ds:List D}{vs:List V},DenL K F ds vs→DenL K F' ds vs
 |[],_,h=>h
 |_::_,_,⟨v,r,h1,h2,h3⟩=>⟨v,r,h1,Den.mono e h2,DenL.mono e h3⟩
end
theorem DenL.nil:DenL K F [] []:=rfl
theorem DenL.cons{d:D}{v:V}{ds:List D}{vs:List V}(h:Den K F d v)(r:DenL K F ds vs):DenL K F (d::ds) (v::vs):=⟨v,vs,rfl,h,r⟩
theorem DenL.len:∀{ds:List D}{vs:List V},DenL K F ds vs→ds.length=vs.length
 |[],_,h=>by cases (show _=_ from h);rfl
 |_::ds,_,⟨v,r,h1,_,h3⟩=>by subst h1;rw[List.length_cons,List.length_cons,DenL.len h3]
theorem DenL.get:∀{ds:List D}{vs:List V}{i:Nat}{d:D},DenL K F ds vs→ds[i]? =some d→∃v,vs[i]? =some v∧Den K F d v
 |[],_,_,_,_,e=>by simp at e
 |d::ds,_,0,_,⟨v,r,h1,h2,h3⟩,e=>by subst h1;simp at e;subst e;exact⟨v,rfl,h2⟩
 |d::ds,_,i+1,_,⟨v,r,h1,h2,h3⟩,e=>by
  subst h1
  obtain⟨w,e1,e2⟩:=DenL.get (i:=i) h3 (by simpa using e)
  exact⟨w,by simpa using e1,e2⟩
theorem DenL.at:∀{ds:List D}{vs:List V}{i:Nat}{v:V},DenL K F ds vs→vs[i]? =some v→∃d,ds[i]? =some d∧Den K F d v
 |[],_,_,_,h,e=>by cases (show _=_ from h);simp at e
 |d::ds,_,0,_,⟨v,r,h1,h2,h3⟩,e=>by subst h1;simp at e;subst e;exact⟨d,rfl,h2⟩
 |d::ds,_,i+1,_,⟨v,r,h1,h2,h3⟩,e=>by
  subst h1
  obtain⟨w,e1,e2⟩:=DenL.at (i:=i) h3 (by simpa using e)
  exact⟨w,by simpa using e1,e2⟩
theorem DenL.append:∀{ds es:List D}{vs ws:List V},DenL K F ds vs→DenL K F es ws→DenL K F (ds++es) (vs++ws)
 |[],_,_,_,h,h'=>by cases (show _=_ from h);exact h'
 |d::ds,_,_,_,⟨v,r,h1,h2,h3⟩,h'=>by subst h1;exact⟨v,_,rfl,h2,DenL.append h3 h'⟩
theorem DenL.take:∀{ds:List D}{vs:List V}(n:Nat),DenL K F ds vs→DenL K F (ds.take n) (vs.take n)
 |_,_,0,_=>by simp[List.take];rfl
 |[],_,_+1,h=>by cases (show _=_ from h);rfl
 |d::ds,_,n+1,⟨v,r,h1,h2,h3⟩=>by subst h1;exact⟨v,_,rfl,h2,DenL.take n h3⟩
theorem DenL.drop:∀{ds:List D}{vs:List V}(n:Nat),DenL K F ds vs→DenL K F (ds.drop n) (vs.drop n)
 |_,_,0,h=>by simpa using h
 |[],_,_+1,h=>by cases (show _=_ from h);rfl
 |d::ds,_,n+1,⟨v,r,h1,h2,h3⟩=>by subst h1;exact DenL.drop n h3
theorem DenL.ints(ns:List Int):DenL K F (ns.map D.int) (ns.map V.int):=by
 induction ns with
 |nil=>rfl
 |cons n ns ih=>exact .cons rfl ih
end
structure Ext (F H F' H':Hp):Prop where
 hh:Same H H'
 ff:Same F F'
 fh:Same F' H'
 new:∀a,H a≠none→F' a=F a∨∃ts,H a=some (.tup ts)
theorem Ext.old{F H F' H':Hp}(e:Ext F H F' H'){a:Addr}{o:HO}(h:H a=some o)(hn:∀ts,o≠ .tup ts):F' a=F a:=by
 rcases e.new a (by rw[h];exact fun z=>nomatch z) with q | ⟨ts,q⟩
 ·exact q
 ·rw[h] at q;cases q;exact absurd rfl (hn ts)
theorem Ext.refl{F H:Hp}(h:Same F H):Ext F H F H:=⟨Same.refl _,Same.refl _,h,fun _ _=> .inl rfl⟩
theorem Ext.trans{F H F' H' F'' H'':Hp}(a:Ext F H F' H')(b:Ext F' H' F'' H''):Ext F H F'' H'':=
 ⟨a.hh.trans b.hh,a.ff.trans b.ff,b.fh,fun c hc=>by
  have:H' c≠none:=by
   cases q:H c with
   |none=>exact absurd q hc
   |some o=>rw[a.hh c o q];exact fun z=>nomatch z
  rcases a.new c hc with p | p
  ·rcases b.new c this with q | ⟨ts,q⟩
   ·exact .inl (q.trans p)
   ·cases z:H c with
    |none=>exact absurd z hc
    |some o=>
     rw[a.hh c o z] at q
     exact .inr ⟨ts,q⟩
  ·exact .inr p⟩
theorem Ext.lay{F H:Hp}{a:Addr}{o:HO}(h:Same F H)(n:H a=none):Ext F H (upd F a o) (upd H a o):=by
 have nf:F a=none:=Same.free h n
 refine⟨fun b u e=>?_,fun b u e=>?_,fun b u e=>?_,fun b hb=>?_⟩
 ·rw[ax (a8 e n)];exact e
 ·rw[ax (a8 e nf)];exact e
 ·by_cases q:b=a
  ·subst q;rw[aE] at e⊢;exact e
  ·rw[ax q] at e⊢;exact h b u e
 ·exact .inl (ax fun z=>hb (by rw[z];exact n))
theorem Ext.free{F H:Hp}{a:Addr}{o:HO}(h:Same F H)(n:H a=none):Ext F H F (upd H a o):=
 ⟨fun b u e=>by rw[ax (a8 e n)];exact e,Same.refl _,fun b u e=>by rw[ax (a8 (h b u e) n)];exact h b u e,fun _ _=> .inl rfl⟩
theorem Ext.tup{F H:Hp}{a:Addr}{ts:List V}(h:Same F H)(e:H a=some (.tup ts)):Ext F H (upd F a (.tup ts)) H:=by
 refine⟨Same.refl _,fun b u q=>?_,fun b u q=>?_,fun b hb=>?_⟩
 ·by_cases z:b=a
  ·subst z;rw[aE,←e];exact h b u q
  ·rw[ax z];exact q
 ·by_cases z:b=a
  ·subst z;rw[aE] at q;rw[e];exact q
  ·rw[ax z] at q;exact h b u q
 ·by_cases z:b=a
  ·subst z;exact .inr ⟨ts,e⟩
  ·exact .inl (ax z)
def WP(K:W.Frag)(Xw:Nat→Hp→Prop)(F H:Hp)(m:M D)(Q:VK):Prop:=
 match m with
 |none=>False
 |some (.ok d)=>∀v H' F',Ext F H F' H'→Den K F' d v→Q v H'
 |some (.ex n)=>∀F' H',Ext F H F' H'→Xw n H'
def WPL(K:W.Frag)(Xw:Nat→Hp→Prop)(F H:Hp)(m:M (List D))(Q:List V→Hp→Prop):Prop:=
 match m with
 |none=>False
 |some (.ok ds)=>∀vs H' F',Ext F H F' H'→DenL K F' ds vs→Q vs H'
 |some (.ex n)=>∀F' H',Ext F H F' H'→Xw n H'
def WPB(Xw:Nat→Hp→Prop)(F H:Hp)(m:M Bool)(Q:Bool→Hp→Prop):Prop:=
 match m with
 |none=>False
 |some (.ok b)=>∀H' F',Ext F H F' H'→Q b H'
 |some (.ex n)=>∀F' H',Ext F H F' H'→Xw n H'
section
variable{K:W.Frag}{Xw:Nat→Hp→Prop}{F F' H H':Hp}{Q:VK}
theorem WP.ext{m:M D}(e:Ext F H F' H')(h:WP K Xw F H m Q):WP K Xw F' H' m Q:=by
 match m,h with
 |none,h=>exact h
 |some (.ok d),h=>exact fun v H2 F2 e2 q=>h v H2 F2 (e.trans e2) q
 |some (.ex n),h=>exact fun F2 H2 e2=>h F2 H2 (e.trans e2)
theorem WPL.ext{m:M (List D)}{Q:List V→Hp→Prop}(e:Ext F H F' H')(h:WPL K Xw F H m Q):WPL K Xw F' H' m Q:=by
 match m,h with
 |none,h=>exact h
 |some (.ok d),h=>exact fun v H2 F2 e2 q=>h v H2 F2 (e.trans e2) q
 |some (.ex n),h=>exact fun F2 H2 e2=>h F2 H2 (e.trans e2)
theorem WPB.ext{m:M Bool}{Q:Bool→Hp→Prop}(e:Ext F H F' H')(h:WPB Xw F H m Q):WPB Xw F' H' m Q:=by
 match m,h with
 |none,h=>exact h
 |some (.ok d),h=>exact fun H2 F2 e2=>h H2 F2 (e.trans e2)
 |some (.ex n),h=>exact fun F2 H2 e2=>h F2 H2 (e.trans e2)
theorem WP.fin{d:D}{v:V}(h:WP K Xw F H (M.ret d) Q)(e:Ext F H F' H')(q:Den K F' d v):Q v H':=h v H' F' e q
theorem WP.now{d:D}{v:V}(h:WP K Xw F H (M.ret d) Q)(s:Same F H)(q:Den K F d v):Q v H:=h v H F (Ext.refl s) q
theorem WP.bind{m:M D}{k:D→M D}(h:WP K Xw F H (m>>=k) Q):WP K Xw F H m fun v H1=>∃F1 d,Ext F H F1 H1∧Den K F1 d v∧WP K Xw F1 H1 (k d) Q:=by
 match m,h with
 |none,h=>exact h
 |some (.ok d),h=>exact fun v H2 F2 e2 q=>⟨F2,d,e2,q,WP.ext e2 (show WP K Xw F H (k d) Q from h)⟩
 |some (.ex n),h=>exact h
theorem WP.bindL{m:M (List D)}{k:List D→M D}(h:WP K Xw F H (m>>=k) Q):WPL K Xw F H m fun vs H1=>∃F1 ds,Ext F H F1 H1∧DenL K F1 ds vs∧WP K Xw F1 H1 (k ds) Q:=by
 match m,h with
 |none,h=>exact h
 |some (.ok d),h=>exact fun v H2 F2 e2 q=>⟨F2,d,e2,q,WP.ext e2 (show WP K Xw F H (k d) Q from h)⟩
 |some (.ex n),h=>exact h
theorem WP.bindB{m:M Bool}{k:Bool→M D}(h:WP K Xw F H (m>>=k) Q):WPB Xw F H m fun b H1=>∃F1,Ext F H F1 H1∧WP K Xw F1 H1 (k b) Q:=by
 match m,h with
 |none,h=>exact h
 |some (.ok d),h=>exact fun H2 F2 e2=>⟨F2,e2,WP.ext e2 (show WP K Xw F H (k d) Q from h)⟩
 |some (.ex n),h=>exact h
theorem WPB.bind{m:M D}{k:D→M Bool}{Q:Bool→Hp→Prop}(h:WPB Xw F H (m>>=k) Q):WP K Xw F H m fun v H1=>∃F1 d,Ext F H F1 H1∧Den K F1 d v∧WPB Xw F1 H1 (k d) Q:=by
 match m,h with
 |none,h=>exact h
 |some (.ok d),h=>exact fun v H2 F2 e2 q=>⟨F2,d,e2,q,WPB.ext e2 (show WPB Xw F H (k d) Q from h)⟩
 |some (.ex n),h=>exact h
theorem WPB.bindB{m:M Bool}{k:Bool→M Bool}{Q:Bool→Hp→Prop}(h:WPB Xw F H (m>>=k) Q):WPB Xw F H m fun b H1=>∃F1,Ext F H F1 H1∧WPB Xw F1 H1 (k b) Q:=by
 match m,h with
 |none,h=>exact h
 |some (.ok d),h=>exact fun H2 F2 e2=>⟨F2,e2,WPB.ext e2 (show WPB Xw F H (k d) Q from h)⟩
 |some (.ex n),h=>exact h
theorem WPL.bind{m:M D}{k:D→M (List D)}{Q:List V→Hp→Prop}(h:WPL K Xw F H (m>>=k) Q):WP K Xw F H m fun v H1=>∃F1 d,Ext F H F1 H1∧Den K F1 d v∧WPL K Xw F1 H1 (k d) Q:=by
 match m,h with
 |none,h=>exact h
 |some (.ok d),h=>exact fun v H2 F2 e2 q=>⟨F2,d,e2,q,WPL.ext e2 (show WPL K Xw F H (k d) Q from h)⟩
 |some (.ex n),h=>exact h
theorem WPL.bindL{m:M (List D)}{k:List D→M (List D)}{Q:List V→Hp→Prop}(h:WPL K Xw F H (m>>=k) Q):WPL K Xw F H m fun vs H1=>∃F1 ds,Ext F H F1 H1∧DenL K F1 ds vs∧WPL K Xw F1 H1 (k ds) Q:=by
 match m,h with
 |none,h=>exact h
 |some (.ok d),h=>exact fun v H2 F2 e2 q=>⟨F2,d,e2,q,WPL.ext e2 (show WPL K Xw F H (k d) Q from h)⟩
 |some (.ex n),h=>exact h
theorem WP.mono{m:M D}{Q':VK}(h:WP K Xw F H m Q)(k:∀v H',Q v H'→Q' v H'):WP K Xw F H m Q':=by
 match m,h with
 |none,h=>exact h
 |some (.ok d),h=>exact fun v H2 F2 e2 q=>k _ _ (h v H2 F2 e2 q)
 |some (.ex n),h=>exact h
theorem WPL.mono{m:M (List D)}{Q Q':List V→Hp→Prop}(h:WPL K Xw F H m Q)(k:∀v H',Q v H'→Q' v H'):WPL K Xw F H m Q':=by
 match m,h with
 |none,h=>exact h
 |some (.ok d),h=>exact fun v H2 F2 e2 q=>k _ _ (h v H2 F2 e2 q)
 |some (.ex n),h=>exact h
theorem WPB.mono{m:M Bool}{Q Q':Bool→Hp→Prop}(h:WPB Xw F H m Q)(k:∀v H',Q v H'→Q' v H'):WPB Xw F H m Q':=by
 match m,h with
 |none,h=>exact h
 |some (.ok d),h=>exact fun H2 F2 e2=>k _ _ (h H2 F2 e2)
 |some (.ex n),h=>exact h
end
inductive C where
 |lst (l:List D) | dct (ks:List (List Key)) (l:List D) | dci (ks:List Key) (l:List D)
def C.d:C→D
 | .lst ds=> .lst ds
 | .dct ks ds=> .dct ks ds
 | .dci ks ds=> .dci ks ds
inductive Sl where
 |fz (d:D) | ow (c:C)
abbrev a5:=List (Option Sl)
def DenC(K:W.Frag)(F:Hp):C→HO→Prop
 | .lst ds,o=>∃vs,o= .lst vs∧DenL K F ds vs∧ds.length≤lim
 | .dct ks ds,o=>∃vs,o= .dT (ks.zip vs)∧DenL K F ds vs∧ks.length=ds.length∧ds.length≤lim
 | .dci ks ds,o=>∃vs,o= .dK (ks.zip vs)∧DenL K F ds vs∧ks.length=ds.length∧ds.length≤lim
theorem DenC.mono{K:W.Frag}{F F':Hp}(e:Same F F'):∀{c:C}{o:HO},DenC K F c o→DenC K F' c o
 | .lst _,_,⟨vs,h1,h2,h3⟩=>⟨vs,h1,DenL.mono e h2,h3⟩
 | .dct _ _,_,⟨vs,h1,h2,h3⟩=>⟨vs,h1,DenL.mono e h2,h3⟩
 | .dci _ _,_,⟨vs,h1,h2,h3⟩=>⟨vs,h1,DenL.mono e h2,h3⟩
theorem DenC.notup{K:W.Frag}{F:Hp}:∀{c:C}{o:HO},DenC K F c o→∀ts,o≠ .tup ts
 | .lst _,_,⟨_,h1,_⟩,ts,z=>by rw[h1] at z;cases z
 | .dct _ _,_,⟨_,h1,_⟩,ts,z=>by rw[h1] at z;cases z
 | .dci _ _,_,⟨_,h1,_⟩,ts,z=>by rw[h1] at z;cases z
def mZ(ob:Obj):HO→HO
 | .dT aw=> .frz ob (.dT aw)
 | .dK aw=> .frz ob (.dK aw)
 |o=>o
theorem DenC.den{K:W.Frag}{F F':Hp}{a:Addr}{ob:Obj}:∀{c:C}{o:HO},DenC K F c o→Same F F'→F' a=some (mZ ob o)→Den K F' c.d (.ref a)
 | .lst _,_,⟨vs,h1,h2,h3⟩,e,q=>by subst h1;exact⟨a,vs,rfl,q,DenL.mono e h2,h3⟩
 | .dct _ _,_,⟨vs,h1,h2,h3⟩,e,q=>by subst h1;exact⟨a,ob,vs,rfl,q,DenL.mono e h2,h3⟩
 | .dci _ _,_,⟨vs,h1,h2,h3⟩,e,q=>by subst h1;exact⟨a,ob,vs,rfl,q,DenL.mono e h2,h3⟩
def DenO(K:W.Frag)(F H:Hp):Sl→V→Prop
 | .fz d,v=>Den K F d v
 | .ow c,v=>∃a o,v= .ref a∧H a=some o∧F a=none∧DenC K F c o
structure StE (K:W.Frag) (F H:Hp) (σ:St) (ρ:a5):Prop where
 fh:Same F H
 den:∀(i:Nat) (sl:Sl),ρ[i]? =some (some sl)→∃v,σ[i]? =some (some v)∧DenO K F H sl v
theorem DenO.ext{K:W.Frag}{F H F' H':Hp}(e:Ext F H F' H'):∀{sl:Sl}{v:V},DenO K F H sl v→DenO K F' H' sl v
 | .fz _,_,h=>Den.mono e.ff h
 | .ow _,_,⟨a,o,h1,h2,h3,h4⟩=>⟨a,o,h1,e.hh _ _ h2,by rw[e.old h2 h4.notup];exact h3,DenC.mono e.ff h4⟩
theorem StE.ext{K:W.Frag}{F H F' H':Hp}{σ:St}{ρ:a5}(s:StE K F H σ ρ)(e:Ext F H F' H'):StE K F' H' σ ρ:=
 ⟨e.fh,fun i sl q=>let ⟨v,h1,h2⟩:=s.den i sl q;⟨v,h1,h2.ext e⟩⟩
abbrev DE:=a5→M D
abbrev DT:=a5→M Bool
abbrev DA:=a5→M (List D)
def tD(K:W.Frag)(Xw:Nat→Hp→Prop)(δ:DE):TE:=fun σ H Q=>∃F ρ,StE K F H σ ρ∧WP K Xw F H (δ ρ) Q
def Nr(K:W.Frag)(Xw:Nat→Hp→Prop)(δ:DT):TT:=fun σ H Q=>∃F ρ,StE K F H σ ρ∧WPB Xw F H (δ ρ) Q
def OP(K:W.Frag)(Xw:Nat→Hp→Prop)(δ:DA):TA:=fun σ H Q=>∃F ρ,StE K F H σ ρ∧WPL K Xw F H (δ ρ) Q
def PD(X:Cx)(Xw:Nat→Hp→Prop)(e:Expr)(δ:DE):Prop:=PE X e (tD X.K Xw δ)
def k9(X:Cx)(Xw:Nat→Hp→Prop)(e:Expr)(δ:DT):Prop:=PT X e (Nr X.K Xw δ)
def lg(X:Cx)(Xw:Nat→Hp→Prop)(es:List Expr)(δ:DA):Prop:=PA X es (OP X.K Xw δ)
theorem PE.weak{X:Cx}{e:Expr}{t t':TE}(h:PE X e t)(k:∀σ H Q,t' σ H Q→t σ H Q):PE X e t':=fun pins s σ H Q I w=>h pins s σ H Q I (k σ H Q w)
theorem PT.weak{X:Cx}{e:Expr}{t t':TT}(h:PT X e t)(k:∀σ H Q,t' σ H Q→t σ H Q):PT X e t':=fun pins s σ H Q I w=>h pins s σ H Q I (k σ H Q w)
theorem PA.weak{X:Cx}{e:List Expr}{t t':TA}(h:PA X e t)(k:∀σ H Q,t' σ H Q→t σ H Q):PA X e t':=fun pos pins s σ H Q I w=>h pos pins s σ H Q I (k σ H Q w)
def dV(i:Nat):DE:=fun ρ=>match ρ[i]? with
 |some (some (.fz d))=>M.ret d
 |_=>M.stuck
def dC(d:D):DE:=fun _=>M.ret d
def d1(g:D→M D)(a:DE):DE:=fun ρ=>a ρ>>=g
def d2(g:D→D→M D)(a b:DE):DE:=fun ρ=>a ρ>>=fun x=>b ρ>>=fun y=>g x y
def aN:DA:=fun _=>M.ret []
def aC(a:DE)(r:DA):DA:=fun ρ=>a ρ>>=fun x=>r ρ>>=fun xs=>M.ret (x::xs)
def dA(g:List D→M D)(a:DA):DE:=fun ρ=>a ρ>>=g
def AL:D→M Bool
 | .bl b=>M.ret b
 |_=>M.stuck
def bS(a:DE):DT:=fun ρ=>a ρ>>=AL
def pY(a b:DT):DT:=fun ρ=>a ρ>>=fun x=>if x then b ρ else M.ret false
def jP(a b:DT):DT:=fun ρ=>a ρ>>=fun x=>if x then M.ret true else b ρ
def cH(a:DT):DT:=fun ρ=>a ρ>>=fun x=>M.ret (!x)
def FR(c:DT)(a b:DE):DE:=fun ρ=>c ρ>>=fun x=>if x then a ρ else b ρ
def fw(a b:DE):DE:=fun ρ=>a ρ>>=fun x=>AL x>>=fun c=>if c then b ρ else M.ret (.bl false)
def FT(a:DE):DE:=fun ρ=>a ρ>>=fun x=>AL x>>=fun c=>M.ret (.bl (!c))
section
variable{X:Cx}{Xw:Nat→Hp→Prop}{a b:Expr}{δa δb:DE}{pos:Pos}
theorem ab{i:Nat}{x:Str}(h:PE X (.Name x pos) (pG i)):PD X Xw (.Name x pos) (dV i):=PE.weak h fun σ H Q ⟨F,ρ,s,w⟩=>by
 unfold dV at w
 split at w
 ·rename_i d e
  obtain⟨v,h1,h2⟩:=s.den i _ e
  exact⟨v,h1,WP.now w s.fh h2⟩
 ·exact w.elim
theorem gD{e:Expr}{d:D}{v:V}(h:PE X e (tC v))(hd:∀F,Den X.K F d v):PD X Xw e (dC d):=PE.weak h fun σ H Q ⟨F,ρ,s,w⟩=>WP.now w s.fh (hd F)
theorem av{i j}:PD X Xw (.Constant (.int i) j pos) (dC (.int i)):=gD HP fun _=>rfl
theorem gb{i j}:PD X Xw (.Constant (.bool i) j pos) (dC (.bl i)):=gD Kt fun _=>rfl
theorem tI{j}:PD X Xw (.Constant .none j pos) (dC .non):=gD HQ fun _=>rfl
theorem jY{x j}(h:x.length≤lim:=by decide):PD X Xw (.Constant (.str x) j pos) (dC (.str x)):=gD HU fun _=>⟨rfl,h⟩
def ux(K:W.Frag)(r:R2)(g:D→D→M D):Prop:=∀(Xw:Nat→Hp→Prop) (F H:Hp) (x y:V) (dx dy:D) (Q:VK),Same F H→Den K F dx x→Den K F dy y→WP K Xw F H (g dx dy) Q→r x y H Q
theorem uh{r:R2}{g:D→D→M D}(hg:ux X.K r g):∀σ H Q,tD X.K Xw (d2 g δa δb) σ H Q→K5 r (tD X.K Xw δa) (tD X.K Xw δb) σ H Q:=fun σ H Q ⟨F,ρ,s,w⟩=>by
 refine⟨F,ρ,s,WP.mono (WP.bind w) fun v H1 ⟨F1,d,e1,q1,w1⟩=>?_⟩
 refine⟨F1,ρ,s.ext e1,WP.mono (WP.bind w1) fun u H2 ⟨F2,d',e2,q2,w2⟩=>?_⟩
 exact hg Xw F2 H2 v u d d' Q e2.fh (Den.mono e2.ff q1) q2 w2
theorem rA{op:Operator}{r:R2}{g:D→D→M D}(ho:OpR X (binaryOp op) r)(hg:ux X.K r g)(ha:PD X Xw a δa)(hb:PD X Xw b δb):PD X Xw (.BinOp a op b pos) (d2 g δa δb):=
 PE.weak (Kv ho ha hb) (uh hg)
theorem Cr{op:CmpOp}{r:R2}{g:D→D→M D}(ho:OpR X (compareOp op) r)(hg:ux X.K r g)(ha:PD X Xw a δa)(hb:PD X Xw b δb)(hm:behindInMarks op b=false:=by first | exact B_ _ | rfl):PD X Xw (.Compare a [op] [b] pos) (d2 g δa δb):=
 PE.weak (E4 ho ha hb hm) (uh hg)
theorem dH{op:CmpOp}{r:R2}{g:D→D→M D}(ho:OpR X (compareOp op) r)(hg:ux X.K r g)(ha:PD X Xw a δa)(hb:PD X Xw b δb)(hm:behindInMarks op b=false:=by first | exact B_ _ | rfl):k9 X Xw (.Compare a [op] [b] pos) (bS (d2 g δa δb)):=
 PT.weak (Fg ho ha hb hm) fun σ H Q ⟨F,ρ,s,w⟩=>by
  refine uh hg σ H _ ⟨F,ρ,s,WP.mono (WPB.bind w) fun v H1 ⟨F1,d,e1,q1,w1⟩=>?_⟩
  cases d with
  |bl k=>exact⟨k,q1,w1 _ _ (Ext.refl e1.fh)⟩
  |_=>exact w1.elim
theorem yW{r:R2}{g:D→D→M D}(hr:IY X r)(hg:ux X.K r g)(ha:PD X Xw a δa)(hb:PD X Xw b δb)(hs:jb b:=by intro _ _;rfl):PD X Xw (.Subscript a b pos) (d2 g δa δb):=
 PE.weak (Ku hr ha hb hs) (uh hg)
theorem ae:lg X Xw [] aN:=PA.weak tq fun σ H Q ⟨F,ρ,s,w⟩=>w [] H F (Ext.refl s.fh) rfl
theorem aa{es:List Expr}{δs:DA}(ha:PD X Xw a δa)(hr:lg X Xw es δs)(hs:starEach (a::es) X.env=(false,eval a X.env)::starEach es X.env:=by rfl):lg X Xw (a::es) (aC δa δs):=
 PA.weak (tm ha hr hs) fun σ H Q ⟨F,ρ,s,w⟩=>by
  refine⟨F,ρ,s,WP.mono (WPL.bind w) fun v H1 ⟨F1,d,e1,q1,w1⟩=>?_⟩
  refine⟨F1,ρ,s.ext e1,WPL.mono (WPL.bindL w1) fun vs H2 ⟨F2,ds,e2,q2,w2⟩=>?_⟩
  exact w2 _ _ _ (Ext.refl e2.fh) (.cons (Den.mono e2.ff q1) q2)
def dq(ds:List D):M D:=if ds.length≤lim then M.ret (.tup ds) else M.stuck
def fW(ds:List D):M D:=if ds.length≤lim then M.ret (.lst ds) else M.stuck
theorem xl{ds:List D}{f:List D→D}{Q:VK}{F H:Hp}(w:WP X.K Xw F H (if ds.length≤lim then M.ret (f ds) else M.stuck) Q):ds.length≤lim∧WP X.K Xw F H (M.ret (f ds)) Q:=by
 split at w
 ·rename_i h;exact⟨h,w⟩
 ·exact w.elim
theorem g0{x1}{es:List Expr}{δs:DA}(h:lg X Xw es δs):PD X Xw (.Tuple es x1 pos) (dA dq δs):=PE.weak (HV h) fun σ H Q ⟨F,ρ,s,w⟩=>by
 refine⟨F,ρ,s,WPL.mono (WP.bindL w) fun vs H1 ⟨F1,ds,e1,q1,w1⟩=>?_⟩
 obtain⟨hl,w1⟩:=xl (X:=X) w1
 have hv:=q1.len
 refine⟨by have:=eX;omega,fun p hp=>WP.fin w1 (Ext.lay e1.fh hp) ⟨p,vs,rfl,aE,DenL.mono (Ext.lay e1.fh hp).ff q1,hl⟩⟩
theorem lN{es:List Expr}{δs:DA}(h:lg X Xw es δs):PD X Xw (.List es pos) (dA fW δs):=PE.weak (CK h) fun σ H Q ⟨F,ρ,s,w⟩=>by
 refine⟨F,ρ,s,WPL.mono (WP.bindL w) fun vs H1 ⟨F1,ds,e1,q1,w1⟩=>?_⟩
 obtain⟨hl,w1⟩:=xl (X:=X) w1
 have hv:=q1.len
 refine⟨by have:=eX;omega,fun p hp=>WP.fin w1 (Ext.lay e1.fh hp) ⟨p,vs,rfl,aE,DenL.mono (Ext.lay e1.fh hp).ff q1,hl⟩⟩
end
def ItD(K:W.Frag)(F:Hp)(J:It)(ds:List D):Prop:=∀(F' H':Hp) (i:Nat),Same F F'→Same F' H'→
 (∀d,ds[i]? =some d→J.go i H'∧∀x H'',J.yld i H' x H''→∃F'',Ext F' H' F'' H''∧Den K F'' d x)∧(ds.length≤i→J.stop i H')
theorem ItD.mono{K:W.Frag}{F F1:Hp}{J:It}{ds:List D}(h:ItD K F J ds)(e:Same F F1):ItD K F1 J ds:=fun F' H' i s1 s2=>h F' H' i (e.trans s1) s2
def WPI(K:W.Frag)(Xw:Nat→Hp→Prop)(F H:Hp)(m:M (List D))(R:It→Hp→Prop):Prop:=
 match m with
 |none=>False
 |some (.ok ds)=>∀J H' F',Ext F H F' H'→ItD K F' J ds→R J H'
 |some (.ex n)=>∀F' H',Ext F H F' H'→Xw n H'
def QR(K:W.Frag)(Xw:Nat→Hp→Prop)(δ:DA):TI:=fun σ H R=>∃F ρ,StE K F H σ ρ∧WPI K Xw F H (δ ρ) R
def wA(X:Cx)(Xw:Nat→Hp→Prop)(tg iter:Expr)(δ:DA):Prop:=PI X tg iter (QR X.K Xw δ)
theorem PI.weak{X:Cx}{tg e:Expr}{t t':TI}(h:PI X tg e t)(k:∀σ H Q,t' σ H Q→t σ H Q):PI X tg e t':=fun pins s σ H Q I w=>h pins s σ H Q I (k σ H Q w)
theorem WPI.bind{K:W.Frag}{Xw:Nat→Hp→Prop}{F H:Hp}{m:M D}{k:D→M (List D)}{R:It→Hp→Prop}(h:WPI K Xw F H (m>>=k) R):
 WP K Xw F H m fun v H1=>∃F1 d,Ext F H F1 H1∧Den K F1 d v∧WPI K Xw F1 H1 (k d) R:=by
 match m,h with
 |none,h=>exact h
 |some (.ok d),h=>
  refine fun v H2 F2 e2 q=>⟨F2,d,e2,q,?_⟩
  have h:WPI K Xw F H (k d) R:=h
  show WPI K Xw F2 H2 (k d) R
  match k d,h with
  |none,h=>exact h
  |some (.ok ds),h=>exact fun J H3 F3 e3 q3=>h J H3 F3 (e2.trans e3) q3
  |some (.ex n),h=>exact fun F3 H3 e3=>h F3 H3 (e2.trans e3)
 |some (.ex n),h=>exact h
theorem WPI.bindL{K:W.Frag}{Xw:Nat→Hp→Prop}{F H:Hp}{m:M (List D)}{k:List D→M (List D)}{R:It→Hp→Prop}(h:WPI K Xw F H (m>>=k) R):
 WPL K Xw F H m fun v H1=>∃F1 d,Ext F H F1 H1∧DenL K F1 d v∧WPI K Xw F1 H1 (k d) R:=by
 match m,h with
 |none,h=>exact h
 |some (.ok d),h=>
  refine fun v H2 F2 e2 q=>⟨F2,d,e2,q,?_⟩
  have h:WPI K Xw F H (k d) R:=h
  show WPI K Xw F2 H2 (k d) R
  match k d,h with
  |none,h=>exact h
  |some (.ok ds),h=>exact fun J H3 F3 e3 q3=>h J H3 F3 (e2.trans e3) q3
  |some (.ex n),h=>exact fun F3 H3 e3=>h F3 H3 (e2.trans e3)
 |some (.ex n),h=>exact h
def lstM:D→M (List D)
 | .lst ds=>M.ret ds
 |_=>M.stuck
def NB:D→M (List D)
 | .tup ds=>M.ret ds
 |_=>M.stuck
def dU(a:DE):DA:=fun ρ=>a ρ>>=lstM
def wU(a:DE):DA:=fun ρ=>a ρ>>=NB
theorem BN{K:W.Frag}{F:Hp}{a:Addr}{vs:List V}{ds:List D}(h:SqL K F a vs)(hd:DenL K F ds vs):ItD K F (LS K a) ds:=fun F' H' i s1 s2=>by
 have hs:=Same.seq s2 (Same.seq s1 h)
 refine⟨fun d e=>?_,fun hl=>⟨vs,hs,by rw[←hd.len];exact hl⟩⟩
 obtain⟨v,e1,q⟩:=hd.get e
 refine⟨⟨vs,v,hs,e1⟩,fun x H'' y=>?_⟩
 obtain⟨e2,y⟩:=y
 subst e2
 have:=y vs hs
 rw[e1] at this
 cases this
 exact⟨F',Ext.refl s2,Den.mono s1 q⟩
theorem Ej{K:W.Frag}{F:Hp}{a:Addr}{vs:List V}{ds:List D}(h:SqT K F a vs)(hd:DenL K F ds vs):ItD K F (LU K a) ds:=fun F' H' i s1 s2=>by
 have hs:=Same.tup s2 (Same.tup s1 h)
 refine⟨fun d e=>?_,fun hl=>⟨vs,hs,by rw[←hd.len];exact hl⟩⟩
 obtain⟨v,e1,q⟩:=hd.get e
 refine⟨⟨vs,v,hs,e1⟩,fun x H'' y=>?_⟩
 obtain⟨e2,y⟩:=y
 subst e2
 have:=y vs hs
 rw[e1] at this
 cases this
 exact⟨F',Ext.refl s2,Den.mono s1 q⟩
def gH(lo:Int)(n:Nat):List D:=(List.range n).map fun(i:Nat)=>D.int (lo+(i:Int))
theorem qQ{K:W.Frag}{F:Hp}(lo:Int)(n:Nat):ItD K F (IX lo n) (gH lo n):=fun F' H' i s1 s2=>by
 refine⟨fun d e=>?_,fun hl=>show n≤i by simpa[gH] using hl⟩
 unfold gH at e
 rw[List.getElem?_map] at e
 have hi:i<n:=by
  by_cases hi:i<n
  ·exact hi
  ·rw[List.getElem?_eq_none (by simpa using hi)] at e;cases e
 rw[List.getElem?_range hi] at e
 cases e
 refine⟨hi,fun x H'' y=>?_⟩
 obtain⟨e2,y⟩:=y
 subst e2 y
 exact⟨F',Ext.refl s2,rfl⟩
section
variable{X:Cx}{Xw:Nat→Hp→Prop}{tg l:Expr}{δ:DE}{pos:Pos}
theorem bV(h:PD X Xw l δ):wA X Xw tg l (dU δ):=PI.weak (E7 h) fun σ H R ⟨F,ρ,s,w⟩=>by
 refine⟨F,ρ,s,WP.mono (WPI.bind w) fun v H1 ⟨F1,d,e1,q1,w1⟩=>?_⟩
 cases d with
 |lst ds=>
  obtain⟨a,vs,h1,h2,h3,h4⟩:=q1
  exact⟨a,h1,⟨vs,Same.seq e1.fh (SqL.of h2)⟩,w1 _ _ _ (Ext.refl e1.fh) (BN (SqL.of h2) h3)⟩
 |_=>exact w1.elim
theorem yZ(h:PD X Xw l δ):wA X Xw tg l (wU δ):=PI.weak (HZ h) fun σ H R ⟨F,ρ,s,w⟩=>by
 refine⟨F,ρ,s,WP.mono (WPI.bind w) fun v H1 ⟨F1,d,e1,q1,w1⟩=>?_⟩
 cases d with
 |tup ds=>
  obtain⟨a,vs,h1,h2,h3,h4⟩:=q1
  exact⟨a,h1,⟨vs,Same.tup e1.fh (SqT.of h2)⟩,w1 _ _ _ (Ext.refl e1.fh) (Ej (SqT.of h2) h3)⟩
 |_=>exact w1.elim
def iV:List D→M (List D)
 |[.int j]=>if -4096≤j∧j≤4096 then M.ret (gH 0 j.toNat) else M.stuck
 |_=>M.stuck
def rM:List D→M (List D)
 |[.int i, .int j]=>if (-4096≤i∧i≤4096)∧(-4096≤j∧j≤4096) then M.ret (gH i (j - i).toNat) else M.stuck
 |_=>M.stuck
theorem DenL.one{K:W.Frag}{F:Hp}{d:D}{vs:List V}(h:DenL K F [d] vs):∃v,vs=[v]∧Den K F d v:=by
 obtain⟨v,r,h1,h2,h3⟩:=h
 cases (show r=[] from h3)
 exact⟨v,h1,h2⟩
theorem DenL.two{K:W.Frag}{F:Hp}{d d':D}{vs:List V}(h:DenL K F [d,d'] vs):∃v v',vs=[v,v']∧Den K F d v∧Den K F d' v':=by
 obtain⟨v,r,h1,h2,h3⟩:=h
 obtain⟨v',h4,h5⟩:=h3.one
 subst h4
 exact⟨v,v',h1,h2,h5⟩
theorem eC{a:Expr}{δs:DA}{p:Pos}(hg:Gl X "range")(hm:X.mg "range"=none)(ha:lg X Xw [a] δs)(hs:starEach [a] X.env=[(false,eval a X.env)]:=by rfl):wA X Xw tg (.Call (.Name "range" p) [a] [] pos) (fun ρ=>δs ρ>>=iV):=
 PI.weak (Ao hg hm ha hs) fun σ H R ⟨F,ρ,s,w⟩=>by
  refine⟨F,ρ,s,WPL.mono (WPI.bindL w) fun vs H1 ⟨F1,ds,e1,q1,w1⟩=>?_⟩
  unfold iV at w1
  split at w1
  ·rename_i j
   obtain⟨v,h1,h2⟩:=q1.one
   cases (show v=_ from h2)
   split at w1
   ·exact⟨j,h1,by omega,by omega,w1 _ _ _ (Ext.refl e1.fh) (qQ 0 _)⟩
   ·exact w1.elim
  ·exact w1.elim
theorem o6{a b:Expr}{δs:DA}{p:Pos}(hg:Gl X "range")(hm:X.mg "range"=none)(ha:lg X Xw [a,b] δs)(hs:starEach [a,b] X.env=[(false,eval a X.env),(false,eval b X.env)]:=by rfl)
 (IJ:starEach [b] X.env=[(false,eval b X.env)]:=by rfl):wA X Xw tg (.Call (.Name "range" p) [a,b] [] pos) (fun ρ=>δs ρ>>=rM):=
 PI.weak (Ap hg hm ha hs IJ) fun σ H R ⟨F,ρ,s,w⟩=>by
  refine⟨F,ρ,s,WPL.mono (WPI.bindL w) fun vs H1 ⟨F1,ds,e1,q1,w1⟩=>?_⟩
  unfold rM at w1
  split at w1
  ·rename_i i j
   obtain⟨v,v',h1,h2,h3⟩:=q1.two
   cases (show v=_ from h2)
   cases (show v'=_ from h3)
   split at w1
   ·exact⟨i,j,h1,⟨by omega,by omega,by omega,by omega⟩,w1 _ _ _ (Ext.refl e1.fh) (qQ i _)⟩
   ·exact w1.elim
  ·exact w1.elim
end
def de(tg N:List Str):List Str:=N.map fun y=>if tg.contains y then y++(" ":Str) else y
def jB(X:Cx)(scope:Scope)(tn:List Str)(pins:List (Addr×Obj))(cl:List (Str×Addr))(C:Addr)(fp:List Addr)(s₂:Shared)(H:Hp):Cx:=
 {X with N:=tn++de tn X.N,s₀:=s₂,H₀:=H,env:=compEnvC scope cl C X.env,outer:=X.stack,ex:=fp,fn:=fun _=>false,pn:=X.pn++pins,xe:=fun _ _=>False}
structure CompSc (X:Cx) (scope:Scope) (tn:List Str):Prop where
 kind:scope.kind= .function
 nocell:∀y∈scope.names,y.2≠ .cell
 names:∀y∈scope.names,y.2= .local→scope.names.lookup y.1=some .local
 frees:∀y∈scope.names,y.2= .free→X.env.kindOf y.1=some .cell∨X.env.kindOf y.1=some .free
 vis:∀p∈(de tn X.N).zip X.N,scope.names.lookup p.1=none∨(p.1=p.2∧scope.names.lookup p.1=some .free)
theorem jO{env:Env}:∀(names:List (Str×NameKind)) (acc:List (Str×Addr)),(∀y∈names,y.2= .free→∃c,env.cells.lookup y.1=some c)→
 (∀x c,acc.lookup x=some c→env.cells.lookup x=some c)→
 ∃cl,(forIn names acc (fun (x:Str×NameKind) (r:List (Str×Addr))=>do
   let __x:=x
   if (__x.2==NameKind.free)=true then do let c←cellOf env __x.1;pure (ForInStep.yield ((__x.1,c)::r)) else pure (ForInStep.yield r)):Sem (List (Str×Addr)))=pure cl∧
  (∀x c,cl.lookup x=some c→env.cells.lookup x=some c)∧(∀x c,acc.lookup x=some c→∃c',cl.lookup x=some c')∧(∀x,names.lookup x=some .free→∃c,cl.lookup x=some c)
 |[],acc,_,h2=>⟨acc,rfl,h2,fun x c e=>⟨c,e⟩,fun x e=>by simp at e⟩
 |(n,k)::r,acc,h1,h2=>by
  by_cases hk:k= .free
  ·subst hk
   obtain⟨c,hc⟩:=h1 (n, .free) List.mem_cons_self rfl
   obtain⟨cl,e,a1,a2,a3⟩:=jO r ((n,c)::acc) (fun y hy=>h1 y (List.mem_cons_of_mem _ hy)) (fun x c' q=>by
    rw[List.lookup_cons] at q
    split at q
    ·rename_i hx
     cases q
     rw[show x=n from by simpa using hx];exact hc
    ·exact h2 x c' q)
   refine⟨cl,?_,a1,fun x c' q=>?_,fun x q=>?_⟩
   ·rw[List.forIn_cons]
    have:cellOf env n=pure c:=by unfold cellOf;rw[hc]
    simp only[beq_self_eq_true,if_true,this,pure_bind]
    exact e
   ·by_cases hx:x=n
    ·subst hx
     exact a2 x c (by simp[List.lookup_cons])
    ·exact a2 x c' (by rw[List.lookup_cons,show (x==n)=false from by simpa using hx];exact q)
   ·rw[List.lookup_cons] at q
    split at q
    ·rename_i hx
     exact a2 x c (by rw[List.lookup_cons,hx])
    ·exact a3 x q
  ·obtain⟨cl,e,a1,a2,a3⟩:=jO r acc (fun y hy=>h1 y (List.mem_cons_of_mem _ hy)) h2
   refine⟨cl,?_,a1,a2,fun x q=>?_⟩
   ·rw[List.forIn_cons]
    have:((k==NameKind.free)=true)=False:=by simpa using hk
    simp only[this,if_false,pure_bind]
    exact e
   ·rw[List.lookup_cons] at q
    split at q
    ·cases q;exact absurd rfl hk
    ·exact a3 x q
theorem nQ{scope:Scope}{env:Env}(h:∀y∈scope.names,y.2= .free→∃c,env.cells.lookup y.1=some c):
 ∃cl,closureFor scope env=pure cl∧(∀x c,cl.lookup x=some c→env.cells.lookup x=some c)∧(∀x,scope.names.lookup x=some .free→∃c,cl.lookup x=some c):=by
 obtain⟨cl,e,a1,_,a3⟩:=jO (env:=env) scope.names [] h (fun x c q=>by simp at q)
 refine⟨cl,?_,a1,a3⟩
 unfold closureFor
 show (forIn scope.names [] _>>=fun r=>pure r)=_
 rw[bind_pure]
 exact e
def noex{α:Type}:M α→M α
 |some (.ok a)=>some (.ok a)
 |_=>none
def di(f:D→M (Option D)):List D→M (List D)
 |[]=>M.ret []
 |d::ds=>f d>>=fun o=>di f ds>>=fun r=>M.ret (match o with | some y=>y::r | none=>r)
def OQ(n:Nat):D→M (List D):=fun d=>match n,d with
 |0,d=>M.ret [d]
 |n, .tup ds=>if ds.length=n then M.ret ds else M.stuck
 |_,_=>M.stuck
def gu(n:Nat)(δt:DT)(δe:DE)(ρ:a5):D→M (Option D):=fun d=>
 OQ n d>>=fun ts=>δt (ts.map (fun t=>some (Sl.fz t))++ρ)>>=fun b=>if b then δe (ts.map (fun t=>some (Sl.fz t))++ρ)>>=fun y=>M.ret (some y) else M.ret none
def bw(n:Nat)(δi:DA)(δt:DT)(δe:DE):DE:=fun ρ=>δi ρ>>=fun ds=>noex (di (gu n δt δe ρ) ds)>>=fW
def b_:DT:=fun _=>M.ret true
theorem el(f:D→M (Option D))(d:D)(ds:List D):di f (d::ds)=(f d>>=fun o=>di f ds>>=fun r=>M.ret (match o with | some y=>y::r | none=>r)):=rfl
theorem wQ{f:D→M (Option D)}{ds:List D}{i:Nat}{d:D}{ys R:List D}(hd:ds[i]? =some d)
 (h:di f ds=(di f (ds.drop i)>>=fun r=>M.ret (ys++r)))(hR:di f ds=M.ret R):
 ∃o,f d=M.ret o∧di f ds=(di f (ds.drop (i+1))>>=fun r=>M.ret ((match o with | some y=>ys++[y] | none=>ys)++r)):=by
 have e:ds.drop i=d::ds.drop (i+1):=by
  obtain⟨hi,e⟩:=List.getElem?_eq_some_iff.mp hd
  rw[List.drop_eq_getElem_cons hi,e]
 rw[e,el] at h
 have h':=h.symm.trans hR
 obtain⟨r,h1,h2⟩:=gM h'
 obtain⟨o,h3,h4⟩:=gM h1
 refine⟨o,h3,?_⟩
 obtain⟨r',h5,h6⟩:=gM h4
 rw[h5,hR]
 rw[←h2,←fb h6]
 show M.ret _=M.ret _
 cases o with
 |none=>rfl
 |some y=>simp
theorem zy{prog:Program}{w:World}{A:Around}{R:Result→Shared→Prop}{s:Shared}{elt target iter:Expr}{ifs:List Expr}{scope:Scope}{pos:Pos}{it acc:Value}{env:Env}(I:Nat→Shared→Prop)
 (turn:∀n s,I n s→wpAny (model prog w) A (pyNext it) (fun r s₁=>match r with
  |none=>R (.ok .next) s₁
  |some v=>wpAny (model prog w) A (letOwnedTupleGo target it v) (fun _ OO=>wpAny (model prog w) A (assign target env v) (fun _ s₂=>
    wpAny (model prog w) A (forIn ifs true fun c r=>if r=true then do let ok←isTrue c env (eval c env);pure (ForInStep.yield ok) else pure (ForInStep.yield r)) (fun ok s₃=>
     if ok=true then wpAny (model prog w) A (eval elt env) (fun x s₄=>
      wpAny (model prog w) A (call (.builtin "list.append") [acc,x]) (fun _ s₅=>∃m,m<n∧I m s₅) (notedBy (model prog w) A env fun e s'=>R (.error e) s') s₄) (notedBy (model prog w) A env fun e s'=>R (.error e) s') s₃
     else∃m,m<n∧I m s₃) (notedBy (model prog w) A env fun e s'=>R (.error e) s') s₂) (notedBy (model prog w) A env fun e s'=>R (.error e) s') OO) (notedBy (model prog w) A env fun e s'=>R (.error e) s') s₁) (notedBy (model prog w) A env fun e s'=>R (.error e) s') s)
 (n:Nat) (h:I n s):
 codeAny (model prog w) A (.compLoop (.ListComp elt [⟨target,iter,ifs,0⟩] scope pos) 0 it acc env) R s:=by
 refine codeAny_loop rfl I (fun n s hI=>?_) n h
 show wpAny _ A ((compTurn (.ListComp elt [⟨target,iter,ifs,0⟩] scope pos) 0 it acc env).onRaise (fun x=>do noteFrame x env;theTreesLotGoes x)) _ _ s
 refine wpAny_noted ?_
 rw[compTurn_list]
 refine wpAny_bind (wpAny_standAt (wpAny_bind (wpAny_mono (turn n s hI) (fun r s₁ h₁=>?_) fun _ _ h'=>h')))
 cases r with
 |none=>exact wpAny_pure h₁
 |some v=>
  refine wpAny_bind (wpAny_mono h₁ (fun _ OO h₁=>?_) fun _ _ h'=>h')
  refine wpAny_bind (wpAny_mono h₁ (fun _ s₂ h₂=>wpAny_bind (wpAny_mono h₂ (fun ok s₃ h₃=>?_) fun _ _ h'=>h')) fun _ _ h'=>h')
  cases ok with
  |false=>exact wpAny_pure ⟨rfl,h₃⟩
  |true=>
   exact wpAny_bind (wpAny_bind (wpAny_mono h₃ (fun x s₄ h₄=>wpAny_bind (wpAny_mono h₄ (fun _ s₅ h₅=>wpAny_pure (wpAny_pure ⟨rfl,h₅⟩)) fun _ _ h'=>h')) fun _ _ h'=>h'))
def zk(X:Cx)(tg:Expr)(n:Nat)(σ:St):Prop:=∀(pins:List (Addr×Obj)) (s:Shared) (σ':St) (F H:Hp) (d:D) (ts:List D) (v:V) (u:Value),Inv X pins σ' H s→Same F H→σ'.drop (max n 1)=σ→RelV v u→Den X.K F d v→OQ n d=M.ret ts→
 wpAny (model X.prog X.w) X.A (assign tg X.env u) (fun _ s'=>∃vs,Inv X pins (vs.map some++σ) H s'∧DenL X.K F ts vs) X.xe s
def lh(X:Cx)(ifs:List Expr)(δt:DT):Prop:=∀(pins:List (Addr×Obj)) (s:Shared) (σ:St) (H:Hp) (Q:Bool→Hp→Prop),Inv X pins σ H s→Nr X.K (fun _ _=>False) δt σ H Q→
 wpAny (model X.prog X.w) X.A (forIn ifs true fun c r=>if r=true then do let ok←isTrue c X.env (eval c X.env);pure (ForInStep.yield ok) else pure (ForInStep.yield r)) (TP X pins σ Q) X.xe s
theorem dD{X:Cx}:lh X [] b_:=fun pins s σ H Q I ⟨F,ρ,S,w⟩=>wpAny_tests_nil ⟨H,I,w H F (Ext.refl S.fh)⟩
theorem pI{X:Cx}{c:Expr}{δ:DT}(h:k9 X (fun _ _=>False) c δ):lh X [c] δ:=fun pins s σ H Q I w=>wpAny_tests_one (h pins s σ H Q I w)
theorem StE.cons{K:W.Frag}{F H:Hp}{σ:St}{ρ:a5}{ts:List D}{vs:List V}(s:StE K F H σ ρ)(h:DenL K F ts vs):StE K F H (vs.map some++σ) (ts.map (fun t=>some (Sl.fz t))++ρ):=by
 refine⟨s.fh,fun i sl e=>?_⟩
 have hl:=h.len
 by_cases hi:i<ts.length
 ·rw[List.getElem?_append_left (by simpa using hi),List.getElem?_map] at e
  cases q:ts[i]? with
  |none=>rw[q] at e;cases e
  |some t=>
   rw[q] at e
   cases e
   obtain⟨v,e1,e2⟩:=h.get q
   exact⟨v,by rw[List.getElem?_append_left (by simp;omega),List.getElem?_map,e1];rfl,e2⟩
 ·rw[List.getElem?_append_right (by simpa using hi)] at e
  obtain⟨v,e1,e2⟩:=s.den _ _ e
  refine⟨v,?_,e2⟩
  rw[List.getElem?_append_right (by simp;omega)]
  simpa[hl] using e1
theorem WPB.take{Xw:Nat→Hp→Prop}{F H:Hp}{b:Bool}:WPB Xw F H (M.ret b) fun b' H'=>b'=b∧∃F',Ext F H F' H':=fun H' F' e=>⟨rfl,F',e⟩
theorem WP.take{K:W.Frag}{Xw:Nat→Hp→Prop}{F H:Hp}{d:D}:WP K Xw F H (M.ret d) fun v H'=>∃F',Ext F H F' H'∧Den K F' d v:=fun v H' F' e q=>⟨F',e,q⟩
def lS(env:Env)(p:Str×NameKind):Str×NameKind:=if (p.2== .free&&env.scope.kind== .function&&env.kindOf p.1==some .cell) then(p.1, .cell) else(p.1,p.2)
theorem gk(scope:Scope)(env:Env):(relabel scope env).names=scope.names.map (lS env):=rfl
theorem C1(env:Env)(p:Str×NameKind):(lS env p).1=p.1:=by unfold lS;split<;>rfl
theorem gR(env:Env)(x:Str):∀ns:List (Str×NameKind),(ns.map (lS env)).lookup x=(ns.lookup x).map fun k=>(lS env (x,k)).2
 |[]=>rfl
 |(m,k)::r=>by
  rw[List.map_cons,List.lookup_cons,List.lookup_cons]
  have e:lS env (m,k)=(m,(lS env (m,k)).2):=Prod.ext (C1 env (m,k)) rfl
  rw[e]
  dsimp only
  by_cases hx:(x==m)=true
  ·have hm:x=m:=by simpa using hx
   subst hm
   rw[hx]
   rfl
  ·have hx:(x==m)=false:=by simpa using hx
   rw[hx]
   exact gR env x r
theorem tR{scope:Scope}{env:Env}{x:Str}(h:scope.names.lookup x=none):(relabel scope env).names.lookup x=none:=by
 rw[gk,gR,h];rfl
theorem tQ{scope:Scope}{env:Env}{x:Str}(hc:∀y∈scope.names,y.2≠ .cell)(h:(relabel scope env).names.lookup x=some .cell∨(relabel scope env).names.lookup x=some .free):scope.names.lookup x=some .free:=by
 rw[gk,gR] at h
 cases q:scope.names.lookup x with
 |none=>rw[q] at h;rcases h with h | h<;>cases h
 |some k=>
  rw[q] at h
  have hk:k≠ .cell:=hc _ (PySem.mem_of_lookup q)
  have h:(lS env (x,k)).2= .cell∨(lS env (x,k)).2= .free:=by simpa using h
  by_cases hf:k= .free
  ·rw[hf]
  ·have:(lS env (x,k)).2=k:=by
    unfold lS
    rw[if_neg]
    simp[hf]
   rw[this] at h
   rcases h with h | h
   ·exact absurd h hk
   ·exact absurd h hf
theorem lT{scope:Scope}{env:Env}{x:Str}(h:scope.names.lookup x=some .free):¬(relabel scope env).names.lookup x=some .local:=by
 rw[gk,gR,h]
 intro z
 have z:(lS env (x, .free)).2= .local:=by simpa using z
 unfold lS at z
 split at z<;>cases z
structure BlockEnd (X:Cx) (pins:List (Addr×Obj)) (C:Addr) (H':Hp) (s1:Shared):Prop where
 ns:∃m,s1.heap.Ns C m
 free:H' C=none
 nl:C≠X.env.locals
 nw:X.s₀.heap.objs.size≤C
 nc:∀x c,X.env.cells.lookup x=some c→c≠C
 np:∀p∈X.pn++pins,p.1≠C
theorem uH{X:Cx}{Xw:Nat→Hp→Prop}{elt iter tg:Expr}{ifs:List Expr}{scope:Scope}{pos:Pos}{tn:List Str}{n:Nat}{δi:DA}{δt:DT}{δe:DE}{cl:List (Str×Addr)}{pins:List (Addr×Obj)}{s:Shared}{σ:St}{H F:Hp}{ρ:a5}{Q:VK}{RR:Value→Addr→Result→Shared→Prop}
 (sc:CompSc X scope tn)(hn:tn.length=max n 1)(hc:X.calm=true)(hi:wA X Xw tg iter δi)
 (hg:∀pins cl C fp s₂ H σ,zk (jB X scope tn pins cl C fp s₂ H) tg n σ)
 (ht:∀pins cl C fp s₂ H,lh (jB X scope tn pins cl C fp s₂ H) ifs δt)
 (he:∀pins cl C fp s₂ H,PD (jB X scope tn pins cl C fp s₂ H) (fun _ _=>False) elt δe)
 (I:Inv X pins σ H s)(S:StE X.K F H σ ρ)(w:WP X.K Xw F H (bw n δi δt δe ρ) Q)
 (A3:∀x c,cl.lookup x=some c→X.env.cells.lookup x=some c)(IG:∀x,scope.names.lookup x=some .free→∃c,cl.lookup x=some c)
 (Pf:∀(s1:Shared) (C D:Addr) (H':Hp),Inv X pins σ H' s1→Q (.ref D) H'→BlockEnd X pins C H' s1→RR (.ref D) C (.ok .next) s1):
 wpAny (model X.prog X.w) X.A (eval iter X.env) (fun x s₁=>wpAny (model X.prog X.w) X.A (pyIter x) (fun it s₂=>wpAny (model X.prog X.w) X.A (newList []) (fun acc s₃=>
  wpAny (model X.prog X.w) X.A (newFunctionEnv scope X.env.globals cl [] X.env.qual none .none (some X.env)) (fun Jb s₄=>
   codeAny (model X.prog X.w) X.A (.compStart (.ListComp elt [⟨tg,iter,ifs,0⟩] scope pos) 0 it acc {Jb with scope:=relabel scope X.env}) (RR acc Jb.locals) s₄) X.xe s₃) X.xe s₂) X.xe s₁) X.xe s:=by
 refine bN (hi pins s σ H (fun J H2=>∃F2 ds,Ext F H F2 H2∧ItD X.K F2 J ds∧WP X.K Xw F2 H2 (noex (di (gu n δt δe ρ) ds)>>=fW) Q) I ⟨F,ρ,S,?_⟩) fun xv s₁ h₁=>bN h₁ fun it s₂ h₂=>?_
 ·unfold bw at w
  rcases(δi ρ).cs with hq | ⟨m,hq⟩ | ⟨ds,hq⟩
  ·rw[hq] at w;exact w.elim
  ·rw[hq] at w⊢;exact w
  ·rw[hq] at w⊢;exact fun J H' F' e q=>⟨F',ds,e,q,WP.ext e w⟩
 obtain⟨ia,fp,OR,J,H2,rfl,I2,T,xW,f2,F2,ds,e2,Oz,w2⟩:=h₂
 obtain⟨R,hR,N4,w2⟩:∃R,di (gu n δt δe ρ) ds=M.ret R∧R.length≤lim∧WP X.K Xw F2 H2 (M.ret (.lst R)) Q:=by
  rcases(di (gu n δt δe ρ) ds).cs with hq | ⟨m,hq⟩ | ⟨R,hq⟩
  ·rw[hq] at w2;exact w2.elim
  ·rw[hq] at w2;exact w2.elim
  ·rw[hq] at w2
   obtain⟨h1,h2⟩:=xl (X:=X) (f:=D.lst) (show WP X.K Xw F2 H2 (fW R) Q from w2)
   exact⟨R,hq,h1,h2⟩
 refine wpAny_newObj_type (wpAny_newFunctionEnv sc.nocell (by intro y hy;simp at hy) (fun h₁ G9 Ed=>?_) sc.kind)
 dsimp only at G9 Ed⊢
 generalize L_:s₂.heap.push {cls:= .type "list",dict:=none,data:= .seq ([]:List Value).toArray}=HL at G9 Ed⊢
 have hC:HL.objs.size=s₂.heap.objs.size+1:=by rw[←L_,Heap.size_push]
 have zJ:s₂.heap.objs.size<HL.objs.size:=by rw[hC];exact Nat.lt_succ_self _
 have old:∀b o,s₂.heap.get? b=some o→h₁.get? b=some o:=fun b o e=>Ed.extBut b o (Nat.ne_of_lt (Nat.lt_trans (Heap.lt_size e) zJ)) (Heap.get?_push_of_some _ (L_▸Heap.get?_push_of_some _ e))
 have Bx:h₁.get? s₂.heap.objs.size=some {cls:= .type "list",data:= .seq ([]:List Value).toArray}:=Ed.extBut _ _ (Nat.ne_of_lt zJ) (Heap.get?_push_of_some _ (L_▸Heap.get?_push_size _ rfl))
 have nD:H2 s₂.heap.objs.size=none:=I2.hok.fresh (Nat.le_refl _)
 have nC:H2 HL.objs.size=none:=I2.hok.fresh (Nat.le_of_lt zJ)
 have gC:s₂.heap.get? HL.objs.size=none:=Heap.get?_none_of_le (Nat.le_of_lt zJ)
 have fl:∀b∈fp,b<s₂.heap.objs.size:=fun b hb=>by
  obtain⟨o,e,_⟩:=T.obj 0 _ xW b hb
  exact Heap.lt_size e
 generalize u0:jB X scope tn pins cl HL.objs.size fp s₂ H2=X'
 have OJ:X'.Ok:=by
  subst u0
  refine⟨I2.ok.mod,sc.kind,I2.ok.glob,I2.ok.blt,Nat.le_of_lt zJ,fun x y c h1 h2=>I2.ok.inj x y c (A3 _ _ h1) (A3 _ _ h2),fun x hx=>?_,fun _ _ h=>(by cases h),I2.ok.hd,I2.ok.frames, .inl rfl,
   fun b hb=>⟨Nat.ne_of_lt (Nat.lt_trans (fl b hb) zJ),fun x c h=>(f2 b hb).2.2.2.2.1 x c (A3 _ _ h)⟩,I2.bs,Nat.le_trans I2.ok.bsz I2.sz,fun b o e hb=>?_,fun b hb z=>?_,I2.stack,I2.stkFree⟩
  ·have hx:(relabel scope X.env).names.lookup x=some .cell∨(relabel scope X.env).names.lookup x=some .free:=hx
   exact IG x (tQ sc.nocell hx)
  ·rcases(f2 b hb).2.2.2.1 with z | z
   ·exact I2.ok.noex b o e z
   ·exact absurd (Nat.lt_of_lt_of_le (Heap.lt_size (I2.ok.bs b o e).1) z) (Nat.lt_irrefl _)
  ·rcases List.mem_cons.mp (I2.stkSub b z) with q | q
   ·exact(f2 b hb).2.1 q
   ·exact(f2 b hb).2.2.1 q
 have M8:∀b o,H2 b=some o→b≠s₂.heap.objs.size:=fun b o e=>a8 e nD
 have GS:∀{H':Hp},(∀b∈fp,H' b=none)→∀b∈fp,pU X' [] H' b:=fun Qc b hb=>by
  subst u0
  refine⟨Qc b hb,Nat.ne_of_lt (Nat.lt_trans (fl b hb) zJ),fun z=>OJ.exfs b hb z, .inl hb,fun x c h=>(f2 b hb).2.2.2.2.1 x c (A3 _ _ h),fun p hp=>?_⟩
  rw[List.append_nil] at hp
  exact(f2 b hb).2.2.2.2.2 p hp
 have I0:Inv X' [] (List.replicate (max n 1) none++σ) (upd H2 s₂.heap.objs.size (.lst [])) {s₂ with heap:=h₁,toks:=s₂.toks+([]:List (Str×Value)).length}:=by
  subst u0
  have ME:HOk X.prog X.w (upd H2 s₂.heap.objs.size (.lst [])) h₁:=I2.hok.laid old (Nat.le_refl _) ⟨Nat.zero_le _,[],_, .nil,Bx⟩
  refine⟨OJ,rfl,I2.bare,Un.laid old (Nat.le_refl _) nD,⟨_,G9,fun i x v h1 h2 h3=>?_⟩,fun x c h=>?_,?_,fun x c h=>?_,fun p hp=>?_,ME,?_⟩
  ·by_cases hi:i<max n 1
   ·rw[List.getElem?_append_left (by simpa using hi),List.getElem?_replicate,if_pos hi] at h2
    cases h2
   ·have Mp:tn.length≤i:=by omega
    have h1:(tn++de tn X.N)[i]? =some x:=h1
    rw[List.getElem?_append_right Mp] at h1
    rw[List.getElem?_append_right (by simpa using hi),List.length_replicate,←hn] at h2
    have hN:∃y,X.N[i - tn.length]? =some y∧(x,y)∈(de tn X.N).zip X.N:=by
     have eO:=(List.getElem?_eq_some_iff.mp h1).1
     have D_:i - tn.length<X.N.length:=by simpa[de] using eO
     refine⟨X.N[i - tn.length],List.getElem?_eq_getElem D_,?_⟩
     refine List.mem_iff_getElem?.mpr ⟨i - tn.length,?_⟩
     rw[List.getElem?_zip_eq_some]
     exact⟨h1,List.getElem?_eq_getElem D_⟩
    obtain⟨y,hy,hm⟩:=hN
    have hV:(relabel scope X.env).names.lookup x=some .local∨(relabel scope X.env).names.lookup x=some .cell∨(relabel scope X.env).names.lookup x=some .free:=h3
    rcases sc.vis _ hm with w6 | ⟨DK,F9⟩
    ·have w6:scope.names.lookup x=none:=w6
     have:(relabel scope X.env).names.lookup x=none:=tR w6
     rw[this] at hV
     rcases hV with z | z | z<;>cases z
    ·have DK:x=y:=DK
     subst DK
     have F9:scope.names.lookup x=some .free:=F9
     have hk:=sc.frees (x, .free) (PySem.mem_of_lookup F9) rfl
     obtain⟨m,G6,G4⟩:=I2.loc
     obtain⟨u,ru,lk⟩:=G4 _ x v hy h2 (by rcases hk with z | z;exact .inr (.inl z);exact .inr (.inr z))
     refine⟨u,ru, .inr ⟨?_,?_⟩⟩
     ·rcases hV with z | z | z
      ·exact absurd z (lT F9)
      ·exact .inl z
      ·exact .inr z
     ·rcases lk with⟨z,_⟩ | ⟨_,c,Pm,DG⟩
      ·rcases hk with q | q
       ·rw[show X.env.kindOf x=some .local from z] at q;cases q
       ·rw[show X.env.kindOf x=some .local from z] at q;cases q
      ·obtain⟨c',F0⟩:=IG x F9
       have:=A3 _ _ F0
       rw[Pm] at this
       cases this
       obtain⟨o,ho,hd⟩:=DG
       exact⟨c,F0,o,old _ _ ho,hd⟩
  ·obtain⟨v,o,ho,hd⟩:=I2.cell x c (A3 _ _ h)
   exact⟨v,o,old _ _ ho,hd⟩
  ·show upd H2 s₂.heap.objs.size (.lst []) HL.objs.size=none
   rw[ax (Nat.ne_of_gt zJ)]
   exact nC
  ·have JA:=A3 _ _ h
   obtain⟨v,q⟩:=I2.cell x c JA
   rw[ax (Nat.ne_of_lt q.lt)]
   exact I2.freeC x c JA
  ·rw[List.append_nil] at hp
   obtain⟨e,nn,ne,nf,d⟩:=I2.pin p hp
   have eO:=Heap.lt_size e
   refine⟨old _ _ e,by rw[ax (Nat.ne_of_lt eO)];exact nn,Nat.ne_of_lt (Nat.lt_trans eO zJ),fun z=>?_,d⟩
   rcases List.mem_cons.mp (I2.stkSub p.1 z) with q | q
   ·exact ne q
   ·exact nf q
  ·show (List.replicate (max n 1) none++σ).length=(tn++de tn X.N).length
   rw[List.length_append,List.length_append,List.length_replicate,hn,show (de tn X.N).length=X.N.length from by simp[de],I2.len]
 have loop:∀s₃:Shared,s₃={s₂ with heap:=h₁,toks:=s₂.toks+([]:List (Str×Value)).length}→
  codeAny (model X.prog X.w) X.A (.compLoop (.ListComp elt [⟨tg,iter,ifs,0⟩] scope pos) 0 (.ref ia) (.ref s₂.heap.objs.size) (compEnvC scope cl HL.objs.size X.env))
   (RR (.ref s₂.heap.objs.size) HL.objs.size) s₃:=by
  intro s₃ Hc
  have Bg:X'.env=compEnvC scope cl HL.objs.size X.env:=by subst u0;rfl
  have hA:X'.A=X.A:=by subst u0;rfl
  have hP:X'.prog=X.prog:=by subst u0;rfl
  have hw:X'.w=X.w:=by subst u0;rfl
  have hK:X'.K=X.K:=by subst u0;rfl
  have Qx:X'.xe=fun _ _=>False:=by subst u0;rfl
  have F4:X'.calm=true:=by subst u0;exact hc
  have Pw:X'.fs=nr X.stack:=by subst u0;rfl
  have hex:X'.ex=fp:=by subst u0;rfl
  have Pa:X'.H₀=H2:=by subst u0;rfl
  have Oo:X'.s₀=s₂:=by subst u0;rfl
  have pass:∀{α:Type}{t:Sem α}{P:α→Shared→Prop}{E':Value→Shared→Prop}{s:Shared},wpAny (model X'.prog X'.w) X'.A t P X'.xe s→wpAny (model X.prog X.w) X.A t P E' s:=fun {α t P E' s} h=>by
   rw[hP,hw,hA,Qx] at h
   exact wpAny_mono h (fun _ _ q=>q) fun _ _ q=>q.elim
  refine zy (fun m s'=>∃(i:Nat) (F' H':Hp) (vs:List V) (ys:List D) (σt:St),m=ds.length - i∧i≤ds.length∧σt.length=max n 1∧Inv X' [] (σt++σ) H' s'∧OR i s'.heap∧(∀b∈fp,H' b=none)∧Ext F2 H2 F' H'∧
   H' s₂.heap.objs.size=some (.lst vs)∧F' s₂.heap.objs.size=none∧DenL X.K F' ys vs∧di (gu n δt δe ρ) ds=(di (gu n δt δe ρ) (ds.drop i)>>=fun r=>M.ret (ys++r))) ?_ ds.length ?_
  ·rintro m s' ⟨i,F',H',vs,ys,σt,rfl,Mq,QE,I',pD,NT,wY,hD,fD,LD,heq⟩
   by_cases eO:i<ds.length
   ·
    obtain⟨d,hd⟩:∃d,ds[i]? =some d:=⟨_,List.getElem?_eq_getElem eO⟩
    obtain⟨Mo,He⟩:=(Oz F' H' i wY.ff wY.fh).1 d hd
    obtain⟨o,ho,JE⟩:=wQ hd heq hR
    have MV:ys.length≤lim:=by
     rw[heq] at hR
     obtain⟨r,_,hr⟩:=gM hR
     rw[←fb hr,List.length_append] at N4
     omega
    obtain⟨ts,Qp,ho⟩:=gM ho
    refine pass ?_
    rw[hP,hw]
    refine bN (T.item X' hP hw hK F4 i [] s' (σt++σ) H' X'.xe I' (GS NT) pD Mo) ?_
    rintro r s1 ⟨u,rfl,h1⟩
    refine pass ?_
    rw[hP,hw]
    refine bN h1 ?_
    rintro _ s2 ⟨x,H3,I3,rx,y3,IQ,Lj⟩
    obtain⟨F3,DD,q3⟩:=He x H3 y3
    have NX:H3 s₂.heap.objs.size=some (.lst vs):=DD.hh _ _ hD
    have O4:F3 s₂.heap.objs.size=none:=by rw[DD.old hD (fun _ z=>nomatch z)];exact fD
    have I3':=I3.pinned (GS Lj) (T.obj _ _ IQ)
    have yI:∀{σ7:St}{H7:Hp}{s7:Shared},Inv X' ([]++o8 fp s2.heap) σ7 H7 s7→OR (i+1) s7.heap∧∀b∈fp,H7 b=none:=fun {σ7 H7 s7} I7=>
     ⟨T.keep _ _ _ IQ fun b hb o e=>(I7.pin (b,o) (List.mem_append_right _ (List.mem_append_right _ (gT hb e)))).1,fun b hb=>by
      obtain⟨o,e,_⟩:=T.obj _ _ IQ b hb
      exact(I7.pin (b,o) (List.mem_append_right _ (List.mem_append_right _ (gT hb e)))).2.1⟩
    have Py:zk X' tg n σ:=by subst u0;exact hg _ _ _ _ _ _ _
    have Qn:lh X' ifs δt:=by subst u0;exact ht _ _ _ _ _ _
    have Pq:PD X' (fun _ _=>False) elt δe:=by subst u0;exact he _ _ _ _ _ _
    refine pass ?_
    rw[←Bg]
    refine bN (Py _ s2 (σt++σ) F3 H3 d ts x u I3' DD.fh (by rw[←QE];simp) rx (by rw[hK];exact q3) Qp) ?_
    rintro _ s4 ⟨vt,I4,dt⟩
    rw[hK] at dt
    have S4:StE X.K F3 H3 (vt.map some++σ) (ts.map (fun t=>some (Sl.fz t))++ρ):=StE.cons ((S.ext e2).ext (wY.trans DD)) dt
    obtain⟨b,hb,ho⟩:=gM ho
    refine pass ?_
    try rw[←Bg]
    refine bN (Qn _ s4 _ H3 (fun b' H5=>b'=b∧∃F5,Ext F3 H3 F5 H5) I4 ⟨F3,_,by rw[hK];exact S4,by rw[hb];exact WPB.take⟩) ?_
    rintro b' s5 ⟨H5,I5,rfl,F5,GQ⟩
    have L9:H5 s₂.heap.objs.size=some (.lst vs):=GQ.hh _ _ NX
    have NQ:F5 s₂.heap.objs.size=none:=by rw[GQ.old NX (fun _ z=>nomatch z)];exact O4
    cases b' with
    |false=>
     rw[if_neg Bool.false_ne_true] at ho⊢
     obtain rfl:=fb ho
     refine⟨ds.length - (i+1),by omega,i+1,F5,H5,vs,ys,vt.map some,rfl,eO,?_,I5.unpinned,(yI I5).1,(yI I5).2,wY.trans (DD.trans GQ),L9,NQ,DenL.mono (DD.trans GQ).ff LD,JE⟩
     have h1:=I5.len
     have h2:=I3.len
     rw[List.length_append] at h1 h2
     omega
    |true=>
     rw[if_pos rfl] at ho⊢
     obtain⟨yv,hy,ho⟩:=gM ho
     obtain rfl:=fb ho
     refine pass ?_
     try rw[←Bg]
     refine bN (Pq _ s5 _ H5 (fun v H6=>∃F6,Ext F5 H5 F6 H6∧Den X.K F6 yv v) I5 ⟨F5,_,by rw[hK];exact S4.ext GQ,by rw[hy,hK];exact WP.take⟩) ?_
     rintro xv s6 ⟨v,H6,I6,rv,F6,Li,qv⟩
     have O_:H6 s₂.heap.objs.size=some (.lst vs):=Li.hh _ _ L9
     have NR:F6 s₂.heap.objs.size=none:=by rw[Li.old L9 (fun _ z=>nomatch z)];exact NQ
     have Qw:vs.length<sizeLine:=by
      have:=LD.len
      have:=eX
      omega
     refine pass ?_
     refine bN (q9 _ s6 _ H6 (.ref s₂.heap.objs.size) [v] (.ref s₂.heap.objs.size) [xv] (fun _ H7=>H7=upd H6 s₂.heap.objs.size (.lst (vs++[v]))) I6 rfl (.cons rv .nil) ⟨_,vs,v,rfl,rfl,O_,Qw,rfl⟩) ?_
     rintro _ s7 ⟨_,H7,I7,_,rfl⟩
     have O3:Ext F2 H2 F6 (upd H6 s₂.heap.objs.size (.lst (vs++[v]))):=by
      have e:=wY.trans (DD.trans (GQ.trans Li))
      refine⟨fun b u q=>?_,e.ff,fun b u q=>?_,e.new⟩
      ·rw[ax (M8 b u q)];exact e.hh b u q
      ·rw[ax (fun z=>by rw[z,NR] at q;cases q)];exact e.fh b u q
     refine⟨ds.length - (i+1),by omega,i+1,F6,_,vs++[v],ys++[yv],vt.map some,rfl,eO,?_,I7.unpinned,(yI I7).1,(yI I7).2,O3,aE,NR,
      DenL.append (DenL.mono (DD.trans (GQ.trans Li)).ff LD) (.cons qv .nil),JE⟩
     have h1:=I5.len
     have h2:=I3.len
     rw[List.length_append] at h1 h2
     omega
   ·
    have hi:i=ds.length:=by omega
    subst hi
    rw[List.drop_length] at heq
    have Pg:R=ys:=by
     rw[heq] at hR
     have hR:M.ret (ys++[])=M.ret R:=hR
     rw[←fb hR,List.append_nil]
    subst Pg
    refine pass ?_
    rw[hP,hw]
    refine bN (T.done X' hP hw hK F4 ds.length [] s' (σt++σ) H' X'.xe I' (GS NT) pD ((Oz F' H' ds.length wY.ff wY.fh).2 (Nat.le_refl _))) ?_
    rintro r s1 ⟨rfl,I1⟩
    obtain⟨m,hm,_⟩:=I1.loc
    rw[Bg] at hm
    have O9:H' HL.objs.size=none:=by
     have:=I1.free
     rw[Bg] at this
     exact this
    have u:=I1.base
    rw[Pw,hex,Pa,Oo] at u
    have BD:s1.os=s₂.os:=by have:=I1.os;rw[Oo] at this;exact this
    have JH:=I1.hok
    rw[hP,hw] at JH
    refine Pf s1 HL.objs.size s₂.heap.objs.size H' (I2.call' (s':=s1) (ch:=fp) BD u JH I1.bare (fun b hb=>⟨(f2 b hb).2.2.2.1,(f2 b hb).2.1,(f2 b hb).2.2.2.2.1,(f2 b hb).2.2.2.2.2⟩)) ?_
     ⟨⟨m,hm⟩,O9,Nat.ne_of_gt (Nat.lt_trans I2.lt zJ),Nat.le_trans I2.sz (Nat.le_of_lt zJ),fun x c q z=>?_,fun p hp z=>?_⟩
    rotate_left
    ·obtain⟨v,q'⟩:=I2.cell x c q
     exact absurd (Nat.lt_trans q'.lt zJ) (by rw[z];exact Nat.lt_irrefl _)
    ·exact absurd (Nat.lt_trans (Heap.lt_size (I2.pin p hp).1) zJ) (by rw[z];exact Nat.lt_irrefl _)
    refine WP.fin w2 (F':=upd F' s₂.heap.objs.size (.lst vs)) ⟨wY.hh,fun b u q=>?_,fun b u q=>?_,fun a ha=>?_⟩ ⟨_,vs,rfl,aE,DenL.mono (fun b u q=>?_) LD,N4⟩
    ·rw[ax (fun z=>by have:=wY.ff b u q;rw[z,fD] at this;cases this)];exact wY.ff b u q
    ·by_cases z:b=s₂.heap.objs.size
     ·rw[z,aE] at q;rw[z,hD];exact q
     ·rw[ax z] at q;exact wY.fh b u q
    ·rcases wY.new a ha with q | q
     ·exact .inl (by rw[ax (fun z=>ha (by rw[z];exact nD))];exact q)
     ·exact .inr q
    ·rw[ax (fun z=>by rw[z,fD] at q;cases q)];exact q
  ·rw[Hc]
   refine⟨0,F2,_,[],[],List.replicate (max n 1) none,by simp,Nat.zero_le _,by simp,I0,T.keep _ _ _ xW (fun b hb o e=>old b o e),fun b hb=>?_,⟨fun b u q=>?_,Same.refl _,fun b u q=>?_,fun _ _=> .inl rfl⟩,aE,Same.free e2.fh nD,rfl,?_⟩
   ·rw[ax (Nat.ne_of_lt (fl b hb))];exact(f2 b hb).1
   ·rw[ax (M8 b u q)];exact q
   ·rw[ax (M8 b u (e2.fh b u q))];exact e2.fh b u q
   ·rw[List.drop_zero]
    rcases(di (gu n δt δe ρ) ds).cs with hq | ⟨m,hq⟩ | ⟨R,hq⟩<;>rw[hq]<;>rfl
 exact codeAny_compStart_list (loop _ rfl) (T.self X.A 0 _ _ _ (T.keep _ _ _ xW (fun b hb o e=>old b o e)) (loop _ rfl))
theorem Inv.block{X:Cx}{pins:List (Addr×Obj)}{σ:St}{H':Hp}{s1:Shared}{C:Addr}{h':Heap}(I:Inv X pins σ H' s1)(b:BlockEnd X pins C H' s1)(Hb:Heap.SameBut C s1.heap h'):Inv X pins σ H' {s1 with heap:=h'}:=
 I.turned (t':=s1.toks) (fun a o ha e=>(Hb.2 a ha).trans e) b.free b.nl (.inr b.nw) b.nc b.np
section
variable{X:Cx}{Xw:Nat→Hp→Prop}{elt iter tg:Expr}{ifs:List Expr}{scope:Scope}{pos:Pos}{tn:List Str}{n:Nat}{δi:DA}{δt:DT}{δe:DE}
theorem eJ(sc:CompSc X scope tn)(hn:tn.length=max n 1)(hc:X.calm=true)(hi:wA X Xw tg iter δi)
 (hg:∀pins cl C fp s₂ H σ,zk (jB X scope tn pins cl C fp s₂ H) tg n σ)
 (ht:∀pins cl C fp s₂ H,lh (jB X scope tn pins cl C fp s₂ H) ifs δt)
 (he:∀pins cl C fp s₂ H,PD (jB X scope tn pins cl C fp s₂ H) (fun _ _=>False) elt δe)
 (hs:∀x,foldedSetIterable iter X.env x=pure x:=by intro _;rfl):
 PD X Xw (.ListComp elt [⟨tg,iter,ifs,0⟩] scope pos) (bw n δi δt δe):=by
 intro pins s σ H Q I ⟨F,ρ,S,w⟩
 obtain⟨cl,Bz,A3,IG⟩:=nQ (scope:=scope) (env:=X.env) fun y hy hf=>I.ok.has y.1 (sc.frees y hy hf)
 rw[eval_ListComp]
 refine wpAny_comprehension_free (use:=none) rfl hs Bz sc.kind sc.names (uH (RR:=fun acc C=>compPost (model X.prog X.w) X.A X.xe none (EP X pins σ Q) acc C) sc hn hc hi hg ht he I S w A3 IG fun s1 C D H' I1 q b=>?_)
 obtain⟨m,hm⟩:=b.ns
 exact⟨m,hm,fun h' Hb=>⟨.ref D,H',Inv.block I1 b Hb,rfl,q⟩⟩
end
inductive Out where
 |nx (ρ:a5) | rt (d:D)
abbrev DS:=a5→M Out
structure StOk (K:W.Frag) (F₀ H₀ F H:Hp) (σ:St) (ρ:a5):Prop where
 ext:Ext F₀ H₀ F H
 st:StE K F H σ ρ
 len:ρ.length=σ.length
 own:∀(i:Nat) (c:C) (a:Addr),ρ[i]? =some (some (.ow c))→σ[i]? =some (some (.ref a))→H₀ a=none
 sep:∀(i j:Nat) (c c':C) (a:Addr),ρ[i]? =some (some (.ow c))→ρ[j]? =some (some (.ow c'))→σ[i]? =some (some (.ref a))→σ[j]? =some (some (.ref a))→i=j
def WPS(K:W.Frag)(Xw:Nat→Hp→Prop)(F₀ H₀:Hp)(m:M Out)(Dn:Ends):Prop:=
 match m with
 |none=>False
 |some (.ok (.nx ρ))=>∀σ F H,StOk K F₀ H₀ F H σ ρ→Dn.nx σ H
 |some (.ok (.rt d))=>∀v F H,Ext F₀ H₀ F H→Den K F d v→Dn.rt v H
 |some (.ex n)=>∀F H,Ext F₀ H₀ F H→Xw n H
def tS(K:W.Frag)(Xw:Nat→Hp→Prop)(F₀ H₀:Hp)(τ:DS):TS:=fun Dn σ H=>∃F ρ,StOk K F₀ H₀ F H σ ρ∧WPS K Xw F₀ H₀ (τ ρ) Dn
def gL(X:Cx)(Xw:Nat→Hp→Prop)(st:Stmt)(τ:DS):Prop:=∀F₀ H₀,PS X st (tS X.K Xw F₀ H₀ τ)
def PSDs(X:Cx)(Xw:Nat→Hp→Prop)(st:List Stmt)(τ:DS):Prop:=∀F₀ H₀,PSs X st (tS X.K Xw F₀ H₀ τ)
theorem PS.weak{X:Cx}{st:Stmt}{t t':TS}(h:PS X st t)(k:∀D σ H,t' D σ H→t D σ H):PS X st t':=fun pins s σ H D I w=>h pins s σ H D I (k D σ H w)
theorem PSs.weak{X:Cx}{st:List Stmt}{t t':TS}(h:PSs X st t)(k:∀D σ H,t' D σ H→t D σ H):PSs X st t':=fun pins s σ H D I w=>h pins s σ H D I (k D σ H w)
section
variable{K:W.Frag}{Xw:Nat→Hp→Prop}{F₀ H₀ F H F' H':Hp}{σ:St}{ρ:a5}
theorem StOk.ext'(s:StOk K F₀ H₀ F H σ ρ)(e:Ext F H F' H'):StOk K F₀ H₀ F' H' σ ρ:=⟨s.ext.trans e,s.st.ext e,s.len,s.own,s.sep⟩
theorem StOk.set(s:StOk K F₀ H₀ F H σ ρ){i:Nat}{d:D}{v:V}(h:Den K F d v):StOk K F₀ H₀ F H (σ.set i (some v)) (ρ.set i (some (.fz d))):=by
 have hl:=s.len
 have get:∀(j:Nat) (sl:Sl),(ρ.set i (some (.fz d)))[j]? =some (some sl)→(j=i∧i<ρ.length∧sl= .fz d)∨(j≠i∧ρ[j]? =some (some sl)):=fun j sl e=>by
  by_cases hj:j=i
  ·subst hj
   have hi:j<ρ.length:=by
    have:=(List.getElem?_eq_some_iff.mp e).1
    simpa using this
   rw[List.getElem?_set_self hi] at e
   cases e
   exact .inl ⟨rfl,hi,rfl⟩
  ·rw[List.getElem?_set_ne (Ne.symm hj)] at e
   exact .inr ⟨hj,e⟩
 refine⟨s.ext,⟨s.st.fh,fun j sl e=>?_⟩,by simp[hl],fun j c a e e'=>?_,fun j k c c' a e1 e2 e3 e4=>?_⟩
 ·rcases get j sl e with⟨rfl,hi,rfl⟩ | ⟨hj,e⟩
  ·exact⟨v,by rw[List.getElem?_set_self (by omega)],h⟩
  ·obtain⟨u,h1,h2⟩:=s.st.den j sl e
   exact⟨u,by rw[List.getElem?_set_ne (Ne.symm hj)];exact h1,h2⟩
 ·rcases get j _ e with⟨_,_,z⟩ | ⟨hj,e⟩
  ·cases z
  ·rw[List.getElem?_set_ne (Ne.symm hj)] at e'
   exact s.own j c a e e'
 ·rcases get j _ e1 with⟨_,_,z⟩ | ⟨hj,e1⟩
  ·cases z
  ·rcases get k _ e2 with⟨_,_,z⟩ | ⟨hk,e2⟩
   ·cases z
   ·rw[List.getElem?_set_ne (Ne.symm hj)] at e3
    rw[List.getElem?_set_ne (Ne.symm hk)] at e4
    exact s.sep j k c c' a e1 e2 e3 e4
theorem StOk.setNew(s:StOk K F₀ H₀ F H σ ρ){i:Nat}{a:Addr}{o:HO}{c₀:C}(n:H a=none)(h:DenC K F c₀ o):
 StOk K F₀ H₀ F (upd H a o) (σ.set i (some (.ref a))) (ρ.set i (some (.ow c₀))):=by
 have hle:=s.len
 have e0:=Ext.free (o:=o) s.st.fh n
 have nF:F a=none:=Same.free s.st.fh n
 have get:∀(j:Nat) (sl:Sl),(ρ.set i (some (.ow c₀)))[j]? =some (some sl)→(j=i∧i<ρ.length∧sl= .ow c₀)∨(j≠i∧ρ[j]? =some (some sl)):=fun j sl e=>by
  by_cases hj:j=i
  ·subst hj
   have hi:j<ρ.length:=by
    have:=(List.getElem?_eq_some_iff.mp e).1
    simpa using this
   rw[List.getElem?_set_self hi] at e
   cases e
   exact .inl ⟨rfl,hi,rfl⟩
  ·rw[List.getElem?_set_ne (Ne.symm hj)] at e
   exact .inr ⟨hj,e⟩
 have old:∀(j:Nat) (c:C) (b:Addr),ρ[j]? =some (some (.ow c))→σ[j]? =some (some (.ref b))→b≠a:=fun j c b e e' z=>by
  obtain⟨u,h1,b',o,h2,h3,_⟩:=s.st.den j _ e
  rw[h1] at e'
  cases e'
  cases h2
  rw[z,n] at h3
  cases h3
 refine⟨s.ext.trans e0,⟨e0.fh,fun j sl e=>?_⟩,by simp[hle],fun j c b e e'=>?_,fun j k c c' b e1 e2 e3 e4=>?_⟩
 ·rcases get j sl e with⟨rfl,hi,rfl⟩ | ⟨hj,e⟩
  ·exact⟨.ref a,by rw[List.getElem?_set_self (by omega)],a,_,rfl,aE,nF,h⟩
  ·obtain⟨u,h1,h2⟩:=s.st.den j sl e
   exact⟨u,by rw[List.getElem?_set_ne (Ne.symm hj)];exact h1,h2.ext e0⟩
 ·rcases get j _ e with⟨rfl,hi,_⟩ | ⟨hj,e⟩
  ·rw[List.getElem?_set_self (by omega)] at e'
   cases e'
   exact Same.free s.ext.hh n
  ·rw[List.getElem?_set_ne (Ne.symm hj)] at e'
   exact s.own j c b e e'
 ·rcases get j _ e1 with⟨rfl,hi,_⟩ | ⟨hj,e1⟩
  ·rw[List.getElem?_set_self (by omega)] at e3
   cases e3
   rcases get k _ e2 with⟨rfl,_,_⟩ | ⟨hk,e2⟩
   ·rfl
   ·rw[List.getElem?_set_ne (Ne.symm hk)] at e4
    exact absurd rfl (old k c' a e2 e4)
  ·rcases get k _ e2 with⟨Mu,hi,_⟩ | ⟨hk,e2⟩
   ·rw[Mu,List.getElem?_set_self (by omega)] at e4
    cases e4
    rw[List.getElem?_set_ne (Ne.symm hj)] at e3
    exact absurd rfl (old j c a (by assumption) e3)
   ·rw[List.getElem?_set_ne (Ne.symm hj)] at e3
    rw[List.getElem?_set_ne (Ne.symm hk)] at e4
    exact s.sep j k c c' b e1 e2 e3 e4
theorem StOk.chg(s:StOk K F₀ H₀ F H σ ρ){i:Nat}{a:Addr}{c c₀:C}{o₀:HO}(hi:ρ[i]? =some (some (.ow c)))(ha:σ[i]? =some (some (.ref a)))(h:DenC K F c₀ o₀):
 StOk K F₀ H₀ F (upd H a o₀) σ (ρ.set i (some (.ow c₀))):=by
 have hle:=s.len
 have h0:=s.own i c a hi ha
 obtain⟨u,q1,a',o,q2,q3,q4,q5⟩:=s.st.den i _ hi
 rw[ha] at q1
 cases q1
 cases q2
 have Ga:i<ρ.length:=(List.getElem?_eq_some_iff.mp hi).1
 have get:∀(j:Nat) (sl:Sl),(ρ.set i (some (.ow c₀)))[j]? =some (some sl)→(j=i∧sl= .ow c₀)∨(j≠i∧ρ[j]? =some (some sl)):=fun j sl e=>by
  by_cases hj:j=i
  ·subst hj
   rw[List.getElem?_set_self Ga] at e
   cases e
   exact .inl ⟨rfl,rfl⟩
  ·rw[List.getElem?_set_ne (Ne.symm hj)] at e
   exact .inr ⟨hj,e⟩
 have fh:Same F (upd H a o₀):=fun b o e=>by
  rw[ax (fun z=>by rw[z,q4] at e;cases e)];exact s.st.fh b o e
 refine⟨⟨fun b o e=>?_,s.ext.ff,fh,s.ext.new⟩,⟨fh,fun j sl e=>?_⟩,by simp[hle],fun j c' b e e'=>?_,fun j k c1 c2 b e1 e2 e3 e4=>?_⟩
 ·rw[ax (fun z=>by rw[z,h0] at e;cases e)];exact s.ext.hh b o e
 ·rcases get j sl e with⟨rfl,rfl⟩ | ⟨hj,e⟩
  ·exact⟨.ref a,ha,a,_,rfl,aE,q4,h⟩
  ·obtain⟨u,h1,h2⟩:=s.st.den j sl e
   refine⟨u,h1,?_⟩
   cases sl with
   |fz d=>exact h2
   |ow c'=>
    obtain⟨b,o',r1,r2,r3,r4⟩:=h2
    refine⟨b,o',r1,?_,r3,r4⟩
    rw[ax (fun z=>hj (s.sep j i c' c a e hi (by rw[h1,r1,z]) ha))];exact r2
 ·rcases get j _ e with⟨rfl,_⟩ | ⟨hj,e⟩
  ·rw[ha] at e';cases e';exact h0
  ·exact s.own j c' b e e'
 ·have k1:∃c,ρ[j]? =some (some (.ow c)):=by
   rcases get j _ e1 with⟨rfl,_⟩ | ⟨_,e⟩
   ·exact⟨c,hi⟩
   ·exact⟨_,e⟩
  have k2:∃c,ρ[k]? =some (some (.ow c)):=by
   rcases get k _ e2 with⟨rfl,_⟩ | ⟨_,e⟩
   ·exact⟨c,hi⟩
   ·exact⟨_,e⟩
  obtain⟨_,k1⟩:=k1
  obtain⟨_,k2⟩:=k2
  exact s.sep j k _ _ b k1 k2 e3 e4
def frz(i:Nat)(ρ:a5):a5:=match ρ[i]? with
 |some (some (.ow c))=>ρ.set i (some (.fz c.d))
 |_=>ρ
theorem StOk.frz(s:StOk K F₀ H₀ F H σ ρ)(i:Nat)(obj:Addr→Obj):(∃a o,H a=some o∧DenC K F (ρ[i]?.elim (.lst []) fun x=>x.elim (.lst []) fun y=>match y with | .ow c=>c | _=> .lst []) o∧σ[i]? =some (some (.ref a))∧StOk K F₀ H₀ (upd F a (mZ (obj a) o)) (upd H a (mZ (obj a) o)) σ (frz i ρ))∨frz i ρ=ρ:=by
 unfold L3.frz
 split
 ·rename_i c₀ hi
  have hle:=s.len
  obtain⟨u,ha,a,o,rfl,q3,q4,F8⟩:=s.st.den i _ hi
  refine .inl ⟨a,o,q3,by rw[hi];exact F8,ha,?_⟩
  have h0:=s.own i _ a hi ha
  have Ga:i<ρ.length:=(List.getElem?_eq_some_iff.mp hi).1
  have ff:Same F (upd F a (mZ (obj a) o)):=fun b o e=>by rw[ax (fun z=>by rw[z,q4] at e;cases e)];exact e
  have fh:Same (upd F a (mZ (obj a) o)) (upd H a (mZ (obj a) o)):=fun b o e=>by
   by_cases z:b=a
   ·rw[z,aE] at e⊢;exact e
   ·rw[ax z] at e⊢;exact s.st.fh b o e
  have get:∀(j:Nat) (sl:Sl),(ρ.set i (some (.fz c₀.d)))[j]? =some (some sl)→(j=i∧sl= .fz c₀.d)∨(j≠i∧ρ[j]? =some (some sl)):=fun j sl e=>by
   by_cases hj:j=i
   ·subst hj
    rw[List.getElem?_set_self Ga] at e
    cases e
    exact .inl ⟨rfl,rfl⟩
   ·rw[List.getElem?_set_ne (Ne.symm hj)] at e
    exact .inr ⟨hj,e⟩
  refine⟨⟨fun b u q=>?_,s.ext.ff.trans ff,fh,fun b hb=>?_⟩,⟨fh,fun j sl e=>?_⟩,by simp[hle],fun j c' b e e'=>?_,fun j k c1 c2 b e1 e2 e3 e4=>?_⟩
  ·rw[ax (fun z=>by rw[z,h0] at q;cases q)];exact s.ext.hh b u q
  ·rcases s.ext.new b hb with q | q
   ·exact .inl (by rw[ax (fun z=>hb (by rw[z];exact h0))];exact q)
   ·exact .inr q
  ·rcases get j sl e with⟨rfl,rfl⟩ | ⟨hj,e⟩
   ·exact⟨.ref a,ha,DenC.den F8 ff aE⟩
   ·obtain⟨u,h1,h2⟩:=s.st.den j sl e
    refine⟨u,h1,?_⟩
    cases sl with
    |fz d=>exact Den.mono ff h2
    |ow c'=>
     obtain⟨b,o',r1,r2,r3,r4⟩:=h2
     have il:b≠a:=fun z=>hj (s.sep j i c' _ a e hi (by rw[h1,r1,z]) ha)
     exact⟨b,o',r1,by rw[ax il];exact r2,by rw[ax il];exact r3,DenC.mono ff r4⟩
  ·rcases get j _ e with⟨_,z⟩ | ⟨hj,e⟩
   ·cases z
   ·exact s.own j c' b e e'
  ·rcases get j _ e1 with⟨_,z⟩ | ⟨_,e1⟩
   ·cases z
   ·rcases get k _ e2 with⟨_,z⟩ | ⟨_,e2⟩
    ·cases z
    ·exact s.sep j k _ _ b e1 e2 e3 e4
 ·exact .inr rfl
end
def join(F H:Hp):Hp:=fun a=>match F a with
 |some o=>some o
 |none=>H a
theorem StOk.rebase{K:W.Frag}{F₀ H₀ F H:Hp}{σ:St}{ρ:a5}(s:StOk K F₀ H₀ F H σ ρ):StOk K F (join F H₀) F H σ ρ∧∀F' H',Ext F (join F H₀) F' H'→Ext F₀ H₀ F' H':=by
 have hj:Same (join F H₀) H:=fun b o e=>by
  unfold join at e
  cases q:F b with
  |some u=>rw[q] at e;cases e;exact s.st.fh b _ q
  |none=>rw[q] at e;exact s.ext.hh b o e
 have h0:Same H₀ (join F H₀):=fun b o e=>by
  unfold join
  cases q:F b with
  |some u=>
   have h1:=s.st.fh b u q
   rw[s.ext.hh b o e] at h1
   exact h1.symm
  |none=>exact e
 refine⟨⟨⟨hj,Same.refl _,s.st.fh,fun _ _=> .inl rfl⟩,s.st,s.len,fun i c a e e'=>?_,s.sep⟩,fun F' H' x=>⟨h0.trans x.hh,s.ext.ff.trans x.ff,x.fh,fun a ha=>?_⟩⟩
 ·have h1:=s.own i c a e e'
  obtain⟨v,q1,a',o,q2,q3,q4,_⟩:=s.st.den i _ e
  rw[e'] at q1
  cases q1
  cases q2
  unfold join
  rw[q4]
  exact h1
 ·have:join F H₀ a≠none:=by
   cases q:H₀ a with
   |none=>exact absurd q ha
   |some o=>rw[h0 a o q];exact fun z=>nomatch z
  rcases s.ext.new a ha with p | p
  ·rcases x.new a this with q | ⟨ts,q⟩
   ·exact .inl (q.trans p)
   ·cases z:H₀ a with
    |none=>exact absurd z ha
    |some o=>
     rw[h0 a o z] at q
     exact .inr ⟨ts,q⟩
  ·exact .inr p
theorem StOk.unbase{K:W.Frag}{F₀ H₀ F U F' H':Hp}{σ:St}{ρ:a5}(k:∀F' H',Ext F U F' H'→Ext F₀ H₀ F' H')(s:StOk K F U F' H' σ ρ)(h:Same H₀ U):StOk K F₀ H₀ F' H' σ ρ:=
 ⟨k _ _ s.ext,s.st,s.len,fun i c a e e'=>Same.free h (s.own i c a e e'),s.sep⟩
theorem zT{K:W.Frag}{F₀ H₀ F H:Hp}{σ:St}{ρ:a5}(s:StOk K F₀ H₀ F H σ ρ):Same H₀ (join F H₀):=fun b o e=>by
 unfold join
 cases q:F b with
 |some u=>
  have h1:=s.st.fh b u q
  rw[s.ext.hh b o e] at h1
  exact h1.symm
 |none=>exact e
theorem Inv.refrz{X:Cx}{pins:List (Addr×Obj)}{σ:St}{H:Hp}{s:Shared}{a:Addr}{o o':HO}(I:Inv X pins σ H s)(e:H a=some o)
 (ho:o'=o∨∃u,o'= .frz ((s.heap.get? a).getD {cls:= .none,data:= .fields #[]}) u∧((∃k,o= .dT k∧u= .dT k)∨∃k,o= .dK k∧u= .dK k)):Inv X pins σ (upd H a o') s:=by
 rcases ho with rfl | ⟨u,rfl,hu⟩
 ·have:upd H a o'=H:=by
   funext b
   by_cases z:b=a
   ·rw[z,aE,e]
   ·rw[ax z]
  rw[this];exact I
 have Qf:o=u:=by rcases hu with⟨k,h1,h2⟩ | ⟨k,h1,h2⟩<;>rw[h1,h2]
 subst Qf
 have nt:∀ts,o≠ .tup ts:=fun ts z=>by rcases hu with⟨k,h1,_⟩ | ⟨k,h1,_⟩<;>rw[h1] at z<;>cases z
 have nf:∀ob v,o≠ .frz ob v:=fun ob v z=>by rcases hu with⟨k,h1,_⟩ | ⟨k,h1,_⟩<;>rw[h1] at z<;>cases z
 have nb:∀p,o≠ .tbl p:=fun p z=>by rcases hu with⟨k,h1,_⟩ | ⟨k,h1,_⟩<;>rw[h1] at z<;>cases z
 have no:∀p,o≠ .own p:=fun p z=>by rcases hu with⟨k,h1,_⟩ | ⟨k,h1,_⟩<;>rw[h1] at z<;>cases z
 have ne:∀b,H b=none→b≠a:=fun b hb z=>by rw[z,e] at hb;cases hb
 have hk:=I.hok a o e
 have eO:=hk.lt
 obtain⟨ob,JP⟩:∃ob,s.heap.get? a=some ob:=by
  rcases hu with⟨k,h1,_⟩ | ⟨k,h1,_⟩
  ·subst h1;obtain⟨_,_,_,_,ob,_,_,q,_⟩:=hk;exact⟨ob,q⟩
  ·subst h1;obtain⟨_,_,_,_,ob,_,_,q,_⟩:=hk;exact⟨ob,q⟩
 rw[JP]
 refine⟨I.ok,I.os,I.bare,⟨I.base.keep,I.base.slot,fun b q h1 h2 h3=>?_,I.base.there,fun b xs q=>?_,fun b q1 v q=>?_,fun b ps q=>?_⟩,I.loc,I.cell,?_,fun x c q=>?_,fun p hp=>?_,fun b v q=>?_,I.len⟩
 ·have:=I.base.free b q h1 h2 h3
  rw[ax (ne b this)];exact this
 ·have:=I.base.tups b xs q
  rw[ax (fun z=>by rw[z,e] at this;exact nt xs (Option.some.inj this))];exact this
 ·have:=I.base.frzs b q1 v q
  rw[ax (fun z=>by rw[z,e] at this;exact nf _ _ (Option.some.inj this))];exact this
 ·obtain⟨m,this⟩:=I.base.tbls b ps q
  exact⟨m,by rw[ax (fun z=>by rw[z,e] at this;exact nb _ (Option.some.inj this))];exact this⟩
 ·rw[ax (ne _ I.free)];exact I.free
 ·rw[ax (ne _ (I.freeC x c q))];exact I.freeC x c q
 ·obtain⟨h1,h2,h3⟩:=I.pin p hp
  exact⟨h1,by rw[ax (ne _ h2)];exact h2,h3⟩
 ·have st:∀{c:Addr}{v:HO},ObjOk X.prog X.w H s.heap c v→ObjOk X.prog X.w (upd H a (.frz ob o)) s.heap c v:=fun {c v} k=>k.stay (fun _ _ _ q=>q)
   (fun c' q=>by rw[ax (fun z=>by rw[z,e] at q;exact no _ (Option.some.inj q))];exact q) fun c' xs q=>by rw[ax (fun z=>by rw[z,e] at q;exact nt _ (Option.some.inj q))];exact q
  by_cases z:b=a
  ·subst z
   rw[show (some ob).getD _=ob from rfl,aE] at q
   cases q
   exact⟨JP,st hk⟩
  ·rw[ax z] at q
   exact st (I.hok b v q)
def aA(a b:DS):DS:=fun ρ=>a ρ>>=fun o=>match o with | .nx ρ'=>b ρ' | .rt d=>M.ret (.rt d)
def cF:DS:=fun ρ=>M.ret (.nx ρ)
def ba(δ:DE):DS:=fun ρ=>δ ρ>>=fun d=>M.ret (.rt d)
def g7(δ:DE):DS:=fun ρ=>δ ρ>>=fun _=>M.ret (.nx ρ)
def bD(i:Nat)(δ:DE):DS:=fun ρ=>δ ρ>>=fun d=>M.ret (.nx (ρ.set i (some (.fz d))))
def gc(c:DT)(a b:DS):DS:=fun ρ=>c ρ>>=fun x=>if x then a ρ else b ρ
def zc(i:Nat)(a:DS):DS:=fun ρ=>a (frz i ρ)
def tV(i:Nat):DS:=fun ρ=>M.ret (.nx (ρ.set i (some (.ow (.lst [])))))
def Ai(ρ:a5)(i:Nat):Option (List D):=match ρ[i]? with
 |some (some (.ow (.lst ds)))=>some ds
 |_=>none
theorem rl{ρ:a5}{i:Nat}{ds:List D}(h:Ai ρ i=some ds):ρ[i]? =some (some (.ow (.lst ds))):=by
 unfold Ai at h
 split at h
 ·rename_i ds' e
  cases h
  exact e
 ·cases h
def jx(i:Nat)(δ:DE):DS:=fun ρ=>match Ai ρ i with
 |some ds=>δ ρ>>=fun d=>if ds.length<lim then M.ret (.nx (ρ.set i (some (.ow (.lst (ds++[d])))))) else M.stuck
 |none=>M.stuck
def C4(i:Nat)(δ:DE):DS:=fun ρ=>match Ai ρ i with
 |some ds=>δ ρ>>=fun d=>lstM d>>=fun es=>if ds.length+es.length≤lim then M.ret (.nx (ρ.set i (some (.ow (.lst (ds++es)))))) else M.stuck
 |none=>M.stuck
def forL(put:D→a5→Option a5)(body:DS):List D→DS
 |[],ρ=>M.ret (.nx ρ)
 |d::ds,ρ=>(match put d ρ with | none=>M.stuck | some ρ1=>body ρ1>>=fun o=>match o with | .nx ρ2=>forL put body ds ρ2 | .rt v=>M.ret (.rt v))
def putN(i:Nat):D→a5→Option a5:=fun d ρ=>some (ρ.set i (some (.fz d)))
def eD(put:D→a5→Option a5)(δi:DA)(body:DS):DS:=fun ρ=>δi ρ>>=fun ds=>forL put body ds ρ
section
variable{X:Cx}{Xw:Nat→Hp→Prop}{F₀ H₀:Hp}{st:Stmt}{rest:List Stmt}{τ τ':DS}{e:Expr}{δ:DE}{pos:Pos}
theorem aZ:PSDs X Xw [] cF:=fun F₀ H₀=>PSs.weak Fe fun D σ H ⟨F,ρ,s,w⟩=>w σ F H s
theorem ai(h1:gL X Xw st τ)(h2:PSDs X Xw rest τ'):PSDs X Xw (st::rest) (aA τ τ'):=fun F₀ H₀=>PSs.weak (CP (h1 F₀ H₀) (h2 F₀ H₀)) fun D σ H ⟨F,ρ,s,w⟩=>by
 refine⟨F,ρ,s,?_⟩
 unfold aA at w
 match τ ρ,w with
 |none,w=>exact w
 |some (.ok (.nx ρ')),w=>exact fun σ' F' H' s'=>⟨F',ρ',s',w⟩
 |some (.ok (.rt d)),w=>exact w
 |some (.ex n),w=>exact w
theorem ar(h1:gL X Xw st τ):PSDs X Xw [st] τ:=fun F₀ H₀=>Ff (h1 F₀ H₀)
theorem d6{i:Nat}(h:gL X Xw st τ):gL X Xw st (zc i τ):=fun F₀ H₀ pins sh σ H D I ⟨F,ρ,s,w⟩=>by
 rcases s.frz i (fun a=>(sh.heap.get? a).getD {cls:= .none,data:= .fields #[]}) with⟨a,o,ha,hc,hσ,s'⟩ | e
 ·refine h F₀ H₀ pins sh σ _ D (L3.Inv.refrz I ha ?_) ⟨_,_,s',w⟩
  generalize (ρ[i]?.elim (C.lst []) fun x=>x.elim (.lst []) fun y=>match y with | .ow c=>c | _=> .lst [])=c at hc
  cases c with
  |lst ds=>obtain⟨vs,rfl,_⟩:=hc;exact .inl rfl
  |dct ks ds=>obtain⟨vs,rfl,_⟩:=hc;exact .inr ⟨_,rfl, .inl ⟨_,rfl,rfl⟩⟩
  |dci ks ds=>obtain⟨vs,rfl,_⟩:=hc;exact .inr ⟨_,rfl, .inr ⟨_,rfl,rfl⟩⟩
 ·exact h F₀ H₀ pins sh σ H D I ⟨F,ρ,s,by unfold zc at w;rw[e] at w;exact w⟩
theorem az(h:PD X Xw e δ):gL X Xw (.Return (some e) pos) (ba δ):=fun F₀ H₀=>PS.weak (H8 h) fun D σ H ⟨F,ρ,s,w⟩=>by
 refine⟨F,ρ,s.st,?_⟩
 unfold ba at w
 match δ ρ,w with
 |none,w=>exact w
 |some (.ok d),w=>exact fun v H' F' e' q=>w v F' H' (s.ext.trans e') q
 |some (.ex n),w=>exact fun F' H' e'=>w F' H' (s.ext.trans e')
theorem cE(h:PD X Xw e δ)(hs:swapsWith e none pos.line X.env=pure false:=by rfl):gL X Xw (.Expr e pos) (g7 δ):=fun F₀ H₀=>PS.weak (nA h hs) fun D σ H ⟨F,ρ,s,w⟩=>by
 refine⟨F,ρ,s.st,?_⟩
 unfold g7 at w
 match δ ρ,w with
 |none,w=>exact w
 |some (.ok d),w=>exact fun v H' F' e' q=>w σ F' H' (s.ext' e')
 |some (.ex n),w=>exact fun F' H' e'=>w F' H' (s.ext.trans e')
theorem aM{i:Nat}{x:Str}{pos':Pos}(hN:X.N.Nodup)(hi:X.N[i]? =some x)(hx:Loc X.env.scope x)(he:PD X Xw e δ)(hf:X.fn x=true∨X.env.scope.names.lookup x=some .local:=by first | exact .inl rfl | exact .inr rfl)
 (hs:swapsWithSole [.Name x pos'] e pos.line X.env=pure false:=by rfl):
 gL X Xw (.Assign [.Name x pos'] e pos) (bD i δ):=fun F₀ H₀=>PS.weak (tL he (a7 hN hi hx hf) hs) fun D σ H ⟨F,ρ,s,w⟩=>by
 refine⟨F,ρ,s.st,?_⟩
 unfold bD at w
 match δ ρ,w with
 |none,w=>exact w
 |some (.ok d),w=>exact fun v H' F' e' q=>w _ F' H' ((s.ext' e').set q)
 |some (.ex n),w=>exact fun F' H' e'=>w F' H' (s.ext.trans e')
theorem iS{elt iter tg:Expr}{ifs:List Expr}{scope:Scope}{aT:Pos}{tn:List Str}{n:Nat}{δi:DA}{δt:DT}{δe:DE}{i:Nat}{x:Str}{pos':Pos}(hN:X.N.Nodup)(Mp:X.N[i]? =some x)(hx:Loc X.env.scope x)
 (sc:CompSc X scope tn)(hn:tn.length=max n 1)(hc:X.calm=true)(hi:wA X Xw tg iter δi)
 (hg:∀pins cl C fp s₂ H σ,zk (jB X scope tn pins cl C fp s₂ H) tg n σ)
 (ht:∀pins cl C fp s₂ H,lh (jB X scope tn pins cl C fp s₂ H) ifs δt)
 (he:∀pins cl C fp s₂ H,PD (jB X scope tn pins cl C fp s₂ H) (fun _ _=>False) elt δe)
 (hf:X.fn x=true∨X.env.scope.names.lookup x=some .local:=by first | exact .inl rfl | exact .inr rfl)
 (Qm:swapsWith (.ListComp elt [⟨tg,iter,ifs,0⟩] scope aT) (some (.Name x pos')) pos.line X.env=pure true:=by rfl)
 (hs:∀x,foldedSetIterable iter X.env x=pure x:=by intro _;rfl):
 gL X Xw (.Assign [.Name x pos'] (.ListComp elt [⟨tg,iter,ifs,0⟩] scope aT) pos) (bD i (bw n δi δt δe)):=fun F₀ H₀ pins s σ H D I ⟨F,ρ,S,w⟩=>by
 obtain⟨cl,Bz,A3,IG⟩:=nQ (scope:=scope) (env:=X.env) fun y hy hf=>I.ok.has y.1 (sc.frees y hy hf)
 have w':WP X.K Xw F H (bw n δi δt δe ρ) (fun v H'=>D.nx (σ.set i (some v)) H'):=by
  have w:WPS X.K Xw F₀ H₀ (bw n δi δt δe ρ>>=fun d=>M.ret (.nx (ρ.set i (some (.fz d))))) D:=w
  match bw n δi δt δe ρ,w with
  |none,w=>exact w
  |some (.ok d),w=>exact fun v H' F' e' q=>w _ F' H' ((S.ext' e').set q)
  |some (.ex n),w=>exact fun F' H' e'=>w F' H' (S.ext.trans e')
 rw[exec_Assign_Name_used _ _ _ _ Qm]
 refine wpAny_bind (wpAny_standAt (wpAny_bind ?_))
 show wpAny _ X.A (do let _←comprehension (.ListComp elt [⟨tg,iter,ifs,0⟩] scope aT) scope X.env _ (newList []) false (eval iter X.env) (some (assign (.Name x pos') X.env))) _ _ s
 refine wpAny_bind (wpAny_mono (wpAny_comprehension_free (use:=some (assign (.Name x pos') X.env)) (Q:=fun _ s'=>SP X pins D .next s') rfl hs Bz sc.kind sc.names
  (uH (RR:=fun acc C=>compPost (model X.prog X.w) X.A X.xe (some (assign (.Name x pos') X.env)) (fun _ s'=>SP X pins D .next s') acc C) sc hn hc hi hg ht he I S.st w' A3 IG fun s1 C D' H' I1 q b=>?_)) (fun _ s' hq=>wpAny_pure (wpAny_pure hq)) fun _ _ e=>e)
 show wpAny _ X.A (assign (.Name x pos') X.env (.ref D')) _ _ _
 refine wpAny_assign_Name (rR I1 hN Mp hx (v:= .ref D') rfl (fun s2 I2 ⟨a,sb,ha⟩=>?_) hf)
 have O8:C≠a:=by
  rcases ha with z | z
  ·rw[z];exact b.nl
  ·exact Ne.symm (b.nc x a z)
 obtain⟨m,hm⟩:=b.ns
 have G6:s2.heap.Ns C m:=hm.sameBut sb O8
 refine⟨m,G6,fun h' Hb=>⟨_,H',Inv.block I2 ⟨⟨m,G6⟩,b.free,b.nl,b.nw,b.nc,b.np⟩ Hb,q⟩⟩
theorem bB{c:Expr}{a b:List Stmt}{tc:DT}(hc:k9 X Xw c tc)(ha:PSDs X Xw a τ)(hb:PSDs X Xw b τ'):gL X Xw (.If c a b pos) (gc tc τ τ'):=fun F₀ H₀=>PS.weak (Kx hc (ha F₀ H₀) (hb F₀ H₀)) fun D σ H ⟨F,ρ,s,w⟩=>by
 refine⟨F,ρ,s.st,?_⟩
 unfold gc at w
 match tc ρ,w with
 |none,w=>exact w
 |some (.ok true),w=>exact fun H' F' e'=>⟨F',ρ,s.ext' e',w⟩
 |some (.ok false),w=>exact fun H' F' e'=>⟨F',ρ,s.ext' e',w⟩
 |some (.ex n),w=>exact fun F' H' e'=>w F' H' (s.ext.trans e')
theorem g6{i:Nat}{x:Str}{pos' o_:Pos}(hN:X.N.Nodup)(hi:X.N[i]? =some x)(hx:Loc X.env.scope x)(hf:X.fn x=true∨X.env.scope.names.lookup x=some .local:=by first | exact .inl rfl | exact .inr rfl):
 gL X Xw (.Assign [.Name x pos'] (.List [] o_) pos) (tV i):=fun F₀ H₀=>PS.weak (tL (CK tq) (a7 hN hi hx hf) rfl) fun D σ H ⟨F,ρ,s,w⟩=>by
 refine⟨Nat.zero_le _,fun p hp=>?_⟩
 exact w _ F _ (s.setNew (c₀:= .lst []) hp ⟨[],rfl,rfl,Nat.zero_le _⟩)
def AS(K:W.Frag)(g:TG)(put:D→a5→Option a5):Prop:=∀(F₀ H₀ F H:Hp) (σ:St) (ρ ρ':a5) (d:D) (v:V) (Q:St→Hp→Prop),StOk K F₀ H₀ F H σ ρ→Den K F d v→put d ρ=some ρ'→
 (∀σ',StOk K F₀ H₀ F H σ' ρ'→Q σ' H)→g v σ H Q
theorem cj{K:W.Frag}{i:Nat}:AS K (Bs i) (putN i):=fun F₀ H₀ F H σ ρ ρ' d v Q s q e k=>by
 cases e
 exact k _ (s.set q)
def QW(K:W.Frag)(Xw:Nat→Hp→Prop)(τ:DS):TS:=fun D σ H=>∃F₀ H₀,tS K Xw F₀ H₀ τ D σ H
theorem PSDs.ex{body:List Stmt}(h:PSDs X Xw body τ):PSs X body (QW X.K Xw τ):=fun pins s σ H D I ⟨F₀,H₀,w⟩=>h F₀ H₀ pins s σ H D I w
theorem b9{tg iter:Expr}{body:List Stmt}{δi:DA}{g:TG}{put:D→a5→Option a5}(hp:PassesOwn (model X.prog X.w) X.A X.env X.xe)(hc:X.calm=true)(hi:wA X Xw tg iter δi)(hg:PG X tg g)(MH:AS X.K g put)(hb:PSDs X Xw body τ)
 (hs:∀x,foldedSetIterable iter X.env x=pure x:=by intro _;rfl):gL X Xw (.For tg iter body [] pos) (eD put δi τ):=fun F₀ H₀=>PS.weak (H0 hp hc hi hg hb.ex hs) fun D σ H ⟨F,ρ,s,w⟩=>by
 refine⟨F,ρ,s.st,?_⟩
 unfold eD at w
 match δi ρ,w with
 |none,w=>exact w
 |some (.ex n),w=>exact fun F' H' e'=>w F' H' (s.ext.trans e')
 |some (.ok ds),w=>
  have w:WPS X.K Xw F₀ H₀ (forL put τ ds ρ) D:=w
  intro J H1 F1 e1 OB
  obtain⟨s1,back⟩:=(s.ext' e1).rebase
  have hU:=zT (s.ext' e1)
  generalize join F1 H₀=U at s1 back hU
  refine⟨fun i m σ H=>m=ds.length - i∧i≤ds.length∧∃F ρ,StOk X.K F1 U F H σ ρ∧WPS X.K Xw F₀ H₀ (forL put τ (ds.drop i) ρ) D,⟨ds.length,by simp,Nat.zero_le _,F1,ρ,s1,by simpa using w⟩,?_⟩
  rintro i m σ2 H2 ⟨rfl,Mq,F2,ρ2,s2,w2⟩
  by_cases eO:i<ds.length
  ·obtain⟨d,hd⟩:∃d,ds[i]? =some d:=⟨_,List.getElem?_eq_getElem eO⟩
   obtain⟨Mo,He⟩:=(OB F2 H2 i s2.ext.ff s2.st.fh).1 d hd
   have ed:ds.drop i=d::ds.drop (i+1):=by
    obtain⟨hi,e⟩:=List.getElem?_eq_some_iff.mp hd
    rw[List.drop_eq_getElem_cons hi,e]
   rw[ed] at w2
   unfold forL at w2
   refine .inr ⟨Mo,fun σ' H'=>∃F' ρ',StOk X.K F1 U F' H' σ' ρ'∧WPS X.K Xw F₀ H₀ (forL put τ (ds.drop (i+1)) ρ') D,fun σ' H' ⟨F',ρ',h2,h3⟩=>⟨ds.length - (i+1),by omega,rfl,eO,F',ρ',h2,h3⟩,fun x H3 y3=>?_⟩
   obtain⟨F3,DD,q3⟩:=He x H3 y3
   match Qh:put d ρ2,w2 with
   |none,w2=>exact w2.elim
   |some ρ3,w2=>
    refine MH F1 U F3 H3 σ2 ρ2 ρ3 d x _ (s2.ext' DD) q3 Qh fun σ3 s3=>⟨F1,U,F3,ρ3,s3,?_⟩
    have w2:WPS X.K Xw F₀ H₀ (τ ρ3>>=fun o=>match o with | .nx ρ2=>forL put τ (ds.drop (i+1)) ρ2 | .rt v=>M.ret (.rt v)) D:=w2
    match τ ρ3,w2 with
    |none,w2=>exact w2
    |some (.ok (.nx ρ')),w2=>exact fun σ' F' H' s'=>⟨F',ρ',s',w2⟩
    |some (.ok (.rt d)),w2=>exact fun v F' H' e q=>w2 v F' H' (back _ _ e) q
    |some (.ex n),w2=>exact fun F' H' e=>w2 F' H' (back _ _ e)
  ·have hi:i=ds.length:=by omega
   subst hi
   rw[List.drop_length] at w2
   exact .inl ⟨(OB F2 H2 ds.length s2.ext.ff s2.st.fh).2 (Nat.le_refl _),w2 σ2 F2 H2 (s2.unbase back hU)⟩
end
def gI(f:Int→Int→D):D→D→M D
 | .int i, .int j=>M.ret (f i j)
 |_,_=>M.stuck
def Jr(c:Int→Int→Bool)(f:Int→Int→D):D→D→M D
 | .int i, .int j=>if c i j then M.ret (f i j) else M.stuck
 |_,_=>M.stuck
theorem rj{K:W.Frag}{gv:Int→Int→V}{gd:Int→Int→D}(h:∀F i j,Den K F (gd i j) (gv i j)):ux K (xM gv) (gI gd):=fun Xw F H x y dx dy Q s hx hy w=>by
 unfold gI at w
 split at w
 ·rename_i i j
  exact⟨i,j,hx,hy,WP.now w s (h F i j)⟩
 ·exact w.elim
theorem xC{K:W.Frag}{gv:Int→Int→V}{gd:Int→Int→D}{c:Int→Int→Bool}{C:Int→Int→Prop}(h:∀F i j,Den K F (gd i j) (gv i j))(hc:∀i j,c i j=true→C i j):ux K (rI C gv) (Jr c gd):=fun Xw F H x y dx dy Q s hx hy w=>by
 unfold Jr at w
 split at w
 ·rename_i i j
  split at w
  ·rename_i Lo
   exact⟨i,j,hx,hy,hc i j Lo,WP.now w s (h F i j)⟩
  ·exact w.elim
 ·exact w.elim
def c6:=gI fun i j=> .int (i+j)
def nY:=gI fun i j=> .int (i - j)
def iA:=Jr (fun i j=>decide ((-(2 ^ 64)<i∧i<2 ^ 64)∨(-(2 ^ 64)<j∧j<2 ^ 64))) fun i j=> .int (i*j)
def p4:=Jr (fun _ j=>decide (0<j∧j<1073741824)) fun i j=> .int (i / j)
def kg:=Jr (fun _ j=>decide (0<j)) fun i j=> .int (i % j)
def Js:=gI fun i j=> .bl (decide (i<j))
def L5:=gI fun i j=> .bl (decide (j<i))
def AN:=gI fun i j=> .bl (decide (j≤i))
section
variable{X:Cx}{Xw:Nat→Hp→Prop}{a b:Expr}{δa δb:DE}{pos:Pos}
theorem cO(ha:PD X Xw a δa)(hb:PD X Xw b δb):PD X Xw (.BinOp a .Add b pos) (d2 c6 δa δb):=rA Hz (rj fun _ _ _=>rfl) ha hb
theorem o5(ha:PD X Xw a δa)(hb:PD X Xw b δb):PD X Xw (.BinOp a .Sub b pos) (d2 nY δa δb):=rA HE (rj fun _ _ _=>rfl) ha hb
theorem jX(ha:PD X Xw a δa)(hb:PD X Xw b δb):PD X Xw (.BinOp a .Mult b pos) (d2 iA δa δb):=rA HC (xC (fun _ _ _=>rfl) fun i j h=>by unfold CMul;exact of_decide_eq_true h) ha hb
theorem tw(ha:PD X Xw a δa)(hb:PD X Xw b δb):PD X Xw (.BinOp a .FloorDiv b pos) (d2 p4 δa δb):=rA EH (xC (fun _ _ _=>rfl) fun i j h=>by unfold IU;exact of_decide_eq_true h) ha hb
theorem lO(ha:PD X Xw a δa)(hb:PD X Xw b δb):PD X Xw (.BinOp a .Mod b pos) (d2 kg δa δb):=rA HB (xC (fun _ _ _=>rfl) fun i j h=>of_decide_eq_true h) ha hb
theorem Gs(ha:PD X Xw a δa)(hb:PD X Xw b δb):k9 X Xw (.Compare a [.Lt] [b] pos) (bS (d2 Js δa δb)):=dH yS (rj fun _ _ _=>rfl) ha hb
theorem Kz(ha:PD X Xw a δa)(hb:PD X Xw b δb):k9 X Xw (.Compare a [.Gt] [b] pos) (bS (d2 L5 δa δb)):=dH Kn (rj fun _ _ _=>rfl) ha hb
def c7:D→D→M D
 | .lst ds, .int i=>match atI ds i with | some d=>M.ret d | none=>M.stuck
 |_,_=>M.stuck
def bq:D→D→M D
 | .tup ds, .int i=>match atI ds i with | some d=>M.ret d | none=>M.stuck
 |_,_=>M.stuck
def Bq:D→D→M D
 | .scr ns, .int i=>match atI ns i with | some n=>M.ret (.int n) | none=>M.stuck
 |_,_=>M.stuck
def su:D→D→M D
 | .str x, .int i=>match atI x.cps.toList i with | some c=>M.ret (.str ⟨#[c]⟩) | none=>M.stuck
 |_,_=>M.stuck
theorem DenL.atI{K:W.Frag}{F:Hp}{ds:List D}{vs:List V}(h:DenL K F ds vs){i:Int}{d:D}(e:L2.atI ds i=some d):∃v,L2.atI vs i=some v∧Den K F d v:=by
 unfold L2.atI at e⊢
 rw[←h.len]
 cases q:BR ds.length i with
 |none=>rw[q] at e;cases e
 |some j=>
  rw[q] at e
  exact h.get e
theorem EJ{K:W.Frag}:ux K (Ii K) c7:=fun Xw F H x y dx dy Q s hx hy w=>by
 unfold c7 at w
 split at w
 ·rename_i ds i
  obtain⟨a,vs,h1,h2,h3,h4⟩:=hx
  split at w
  ·rename_i d e
   obtain⟨v,e1,q⟩:=h3.atI e
   exact⟨a,vs,i,v,h1,hy,SqL.of (s _ _ h2),e1,WP.now w s q⟩
  ·exact w.elim
 ·exact w.elim
theorem EM{K:W.Frag}:ux K (KN K) bq:=fun Xw F H x y dx dy Q s hx hy w=>by
 unfold bq at w
 split at w
 ·rename_i ds i
  obtain⟨a,vs,h1,h2,h3,h4⟩:=hx
  split at w
  ·rename_i d e
   obtain⟨v,e1,q⟩:=h3.atI e
   exact⟨a,vs,i,v,h1,hy,SqT.of (s _ _ h2),e1,WP.now w s q⟩
  ·exact w.elim
 ·exact w.elim
theorem EK{K:W.Frag}:ux K (Ii K) Bq:=fun Xw F H x y dx dy Q s hx hy w=>by
 unfold Bq at w
 split at w
 ·rename_i ns i
  obtain⟨a,h1,h2,h3⟩:=hx
  split at w
  ·rename_i n e
   refine⟨a,_,i, .int n,h1,hy,Same.seq s h2,?_,WP.now w s rfl⟩
   unfold L2.atI at e⊢
   rw[List.length_map]
   cases q:BR ns.length i with
   |none=>rw[q] at e;cases e
   |some j=>
    rw[q] at e
    have e:ns[j]? =some n:=e
    show (ns.map V.int)[j]? =some (.int n)
    rw[List.getElem?_map,e];rfl
  ·exact w.elim
 ·exact w.elim
theorem EL{K:W.Frag}:ux K KL su:=fun Xw F H x y dx dy Q s hx hy w=>by
 unfold su at w
 split at w
 ·rename_i z i
  obtain⟨h1,h2⟩:=hx
  split at w
  ·rename_i c e
   exact⟨z,i,c,h1,hy,by have:=eX;omega,e,WP.now w s ⟨rfl,by show 1≤lim;decide⟩⟩
  ·exact w.elim
 ·exact w.elim
theorem eY(ha:PD X Xw a δa)(hb:PD X Xw b δb)(hs:jb b:=by intro _ _;rfl):PD X Xw (.Subscript a b pos) (d2 c7 δa δb):=yW yH EJ ha hb hs
theorem HJ(ha:PD X Xw a δa)(hb:PD X Xw b δb)(hs:jb b:=by intro _ _;rfl):PD X Xw (.Subscript a b pos) (d2 Bq δa δb):=yW yH EK ha hb hs
theorem bR(ha:PD X Xw a δa)(hb:PD X Xw b δb)(hs:jb b:=by intro _ _;rfl):PD X Xw (.Subscript a b pos) (d2 bq δa δb):=yW Ho EM ha hb hs
theorem Cs(ha:PD X Xw a δa)(hb:PD X Xw b δb)(hs:jb b:=by intro _ _;rfl):PD X Xw (.Subscript a b pos) (d2 su δa δb):=yW Hn EL ha hb hs
theorem i_(x y:Str):(x++y).length=x.length+y.length:=by
 show (x.cps++y.cps).size=_
 simp[Str.length]
end
end L3
namespace L3
open PySem PySem.Spec L2 SeqAt
open PyProof.Rows hiding St
def uQ(f:D→D→Option Bool):List D→List D→Option Bool
 |[],[]=>some true
 |x::xs,y::ys=>match f x y,uQ f xs ys with
  |some b,some r=>some (b&&r)
  |_,_=>none
 |[],_::_=>some false
 |_::_,[]=>some false
def wV:D→D→Option Bool
 | .non, .non=>some true
 | .bl a, .bl b=>some (a==b)
 | .bl a, .int j=>some ((if a then 1 else 0)==j)
 | .int i, .bl b=>some (i==(if b then 1 else 0))
 | .int i, .int j=>some (i==j)
 | .str x, .str y=>some (x==y)
 | .non, .bl _=>some false
 | .non, .int _=>some false
 | .non, .str _=>some false
 | .non, .lst _=>some false
 | .non, .tup _=>some false
 | .bl _, .non=>some false
 | .bl _, .str _=>some false
 | .bl _, .lst _=>some false
 | .bl _, .tup _=>some false
 | .int _, .non=>some false
 | .int _, .str _=>some false
 | .int _, .lst _=>some false
 | .int _, .tup _=>some false
 | .str _, .non=>some false
 | .str _, .bl _=>some false
 | .str _, .int _=>some false
 | .str _, .lst _=>some false
 | .str _, .tup _=>some false
 | .lst _, .non=>some false
 | .lst _, .bl _=>some false
 | .lst _, .int _=>some false
 | .lst _, .str _=>some false
 | .lst _, .tup _=>some false
 | .tup _, .non=>some false
 | .tup _, .bl _=>some false
 | .tup _, .int _=>some false
 | .tup _, .str _=>some false
 | .tup _, .lst _=>some false
 |_,_=>none
def p0:Nat→D→D→Option Bool
 |n+1, .tup xs, .tup ys=>uQ (p0 n) xs ys
 |n+1, .lst xs, .lst ys=>uQ (p0 n) xs ys
 |n+1, .scr xs, .lst ys=>uQ (p0 n) (xs.map D.int) ys
 |_,x,y=>wV x y
structure EqAll (A:Around) (s:Shared) (u v:Value) (b:Bool):Prop where
 rc:RcAt A s u v b
 ne:RcNeAt A s u v (!b)
 eq:EqAt A s u v b
section
variable{X:Cx}{pins:List (Addr×Obj)}{σ:St}{F H:Hp}{s:Shared}{A:Around}
theorem e7(I:Inv X pins σ H s)(hs:Same F H){ds:List D}{v:V}{u:Value}(h:Den X.K F (.tup ds) v)(r:RelV v u):∃a vs aB,u= .ref a∧v= .ref a∧F a=some (.tup vs)∧DenL X.K F ds vs∧Vals vs aB∧s.heap.IsTuple a aB.toArray:=by
 obtain⟨a,vs,rfl,h2,h3,h4⟩:=h
 obtain⟨aB,r1,p1,_⟩:=I.tuple (SqT.of (hs _ _ h2))
 exact⟨a,vs,aB,r,rfl,h2,h3,r1,p1⟩
theorem eu(I:Inv X pins σ H s)(hs:Same F H){ds:List D}{v:V}{u:Value}(h:Den X.K F (.lst ds) v)(r:RelV v u):∃a vs aB,u= .ref a∧v= .ref a∧F a=some (.lst vs)∧DenL X.K F ds vs∧Vals vs aB∧s.heap.IsList a aB.toArray:=by
 obtain⟨a,vs,rfl,h2,h3,h4⟩:=h
 obtain⟨aB,r1,p1,_⟩:=I.list (SqL.of (hs _ _ h2))
 exact⟨a,vs,aB,r,rfl,h2,h3,r1,p1.isList⟩
theorem Im(I:Inv X pins σ H s)(hs:Same F H){ns:List Int}{v:V}{u:Value}(h:Den X.K F (.scr ns) v)(r:RelV v u):∃a aB,u= .ref a∧v= .ref a∧SqL X.K F a (ns.map V.int)∧Vals (ns.map V.int) aB∧s.heap.IsList a aB.toArray:=by
 obtain⟨a,rfl,h2,h3⟩:=h
 obtain⟨aB,r1,p1,_⟩:=I.list (Same.seq hs h2)
 exact⟨a,aB,r,rfl,h2,r1,p1.isList⟩
theorem uS(I:Inv X pins σ H s)(hs:Same F H)(hu:A.units<cLine){x y:D}{v w:V}{u t:Value}{b:Bool}(hx:Den X.K F x v)(hy:Den X.K F y w)(rx:RelV v u)(ry:RelV w t)(e:wV x y=some b):EqAll A s u t b:=by
 cases x with
 |non=>
  cases y with
  |non=>
   cases e
   cases (show _=_ from hx)
   cases rx
   cases (show _=_ from hy)
   cases ry
   exact⟨RcAt.none_none,RcNeAt.none_none,EqAt.same _⟩
  |bl d=>
   cases e
   cases (show _=_ from hx)
   cases rx
   cases (show _=_ from hy)
   cases ry
   exact⟨RcAt.none_bool _,RcNeAt.none_bool _,EqAt.none_bool _⟩
  |int d=>
   cases e
   cases (show _=_ from hx)
   cases rx
   cases (show _=_ from hy)
   obtain⟨t2,rfl⟩:=ry
   exact⟨RcAt.none_int _ _,RcNeAt.none_int _ _,EqAt.none_int _ _⟩
  |str d=>
   cases e
   cases (show _=_ from hx)
   cases rx
   cases (show _=_ from hy.1)
   obtain⟨t2,rfl⟩:=ry
   exact⟨RcAt.none_str _ _,RcNeAt.none_str _ _,EqAt.none_str _ _⟩
  |raw d=>cases e
  |dct _ _=>cases e
  |dci _ _=>cases e
  |exc d=>cases e
  |scr d=>cases e
  |tup d=>
   cases e
   cases (show _=_ from hx)
   cases rx
   obtain⟨a2,_,_,rfl,_,_,_,_,p2⟩:=e7 I hs hy ry
   exact⟨RcAt.none_tuple p2 hu,RcNeAt.none_tuple p2 hu,EqAt.none_tuple p2 hu⟩
  |lst d=>
   cases e
   cases (show _=_ from hx)
   cases rx
   obtain⟨a2,_,_,rfl,_,_,_,_,p2⟩:=eu I hs hy ry
   exact⟨RcAt.none_list p2 hu,RcNeAt.none_list p2 hu,EqAt.none_list p2 hu⟩
 |bl c=>
  cases y with
  |non=>
   cases e
   cases (show _=_ from hx)
   cases rx
   cases (show _=_ from hy)
   cases ry
   exact⟨RcAt.bool_none _,RcNeAt.bool_none _,EqAt.bool_none _⟩
  |bl d=>
   cases e
   cases (show _=_ from hx)
   cases rx
   cases (show _=_ from hy)
   cases ry
   exact⟨RcAt.bool_bool _ _,RcNeAt.bool_bool _ _,EqAt.bool_bool _ _⟩
  |int d=>
   cases e
   cases (show _=_ from hx)
   cases rx
   cases (show _=_ from hy)
   obtain⟨t2,rfl⟩:=ry
   exact⟨RcAt.bool_int _ _ _,RcNeAt.bool_int _ _ _,EqAt.bool_int _ _ _⟩
  |str d=>
   cases e
   cases (show _=_ from hx)
   cases rx
   cases (show _=_ from hy.1)
   obtain⟨t2,rfl⟩:=ry
   exact⟨RcAt.bool_str _ _ _,RcNeAt.bool_str _ _ _,EqAt.bool_str _ _ _⟩
  |raw d=>cases e
  |dct _ _=>cases e
  |dci _ _=>cases e
  |exc d=>cases e
  |scr d=>cases e
  |tup d=>
   cases e
   cases (show _=_ from hx)
   cases rx
   obtain⟨a2,_,_,rfl,_,_,_,_,p2⟩:=e7 I hs hy ry
   exact⟨RcAt.bool_tuple _ p2 hu,RcNeAt.bool_tuple _ p2 hu,EqAt.bool_tuple _ p2 hu⟩
  |lst d=>
   cases e
   cases (show _=_ from hx)
   cases rx
   obtain⟨a2,_,_,rfl,_,_,_,_,p2⟩:=eu I hs hy ry
   exact⟨RcAt.bool_list _ p2 hu,RcNeAt.bool_list _ p2 hu,EqAt.bool_list _ p2 hu⟩
 |int c=>
  cases y with
  |non=>
   cases e
   cases (show _=_ from hx)
   obtain⟨t1,rfl⟩:=rx
   cases (show _=_ from hy)
   cases ry
   exact⟨RcAt.int_none _ _,RcNeAt.int_none _ _,EqAt.int_none _ _⟩
  |bl d=>
   cases e
   cases (show _=_ from hx)
   obtain⟨t1,rfl⟩:=rx
   cases (show _=_ from hy)
   cases ry
   exact⟨RcAt.int_bool _ _ _,RcNeAt.int_bool _ _ _,EqAt.int_bool _ _ _⟩
  |int d=>
   cases e
   cases (show _=_ from hx)
   obtain⟨t1,rfl⟩:=rx
   cases (show _=_ from hy)
   obtain⟨t2,rfl⟩:=ry
   exact⟨RcAt.int_int _ _ _ _,RcNeAt.int_int _ _ _ _,EqAt.int_int _ _ _ _⟩
  |str d=>
   cases e
   cases (show _=_ from hx)
   obtain⟨t1,rfl⟩:=rx
   cases (show _=_ from hy.1)
   obtain⟨t2,rfl⟩:=ry
   exact⟨RcAt.int_str _ _ _ _,RcNeAt.int_str _ _ _ _,EqAt.int_str _ _ _ _⟩
  |raw d=>cases e
  |dct _ _=>cases e
  |dci _ _=>cases e
  |exc d=>cases e
  |scr d=>cases e
  |tup d=>
   cases e
   cases (show _=_ from hx)
   obtain⟨t1,rfl⟩:=rx
   obtain⟨a2,_,_,rfl,_,_,_,_,p2⟩:=e7 I hs hy ry
   exact⟨RcAt.int_tuple _ _ p2 hu,RcNeAt.int_tuple _ _ p2 hu,EqAt.int_tuple _ _ p2 hu⟩
  |lst d=>
   cases e
   cases (show _=_ from hx)
   obtain⟨t1,rfl⟩:=rx
   obtain⟨a2,_,_,rfl,_,_,_,_,p2⟩:=eu I hs hy ry
   exact⟨RcAt.int_list _ _ p2 hu,RcNeAt.int_list _ _ p2 hu,EqAt.int_list _ _ p2 hu⟩
 |str c=>
  cases y with
  |non=>
   cases e
   cases (show _=_ from hx.1)
   obtain⟨t1,rfl⟩:=rx
   cases (show _=_ from hy)
   cases ry
   exact⟨RcAt.str_none _ _,RcNeAt.str_none _ _,EqAt.str_none _ _⟩
  |bl d=>
   cases e
   cases (show _=_ from hx.1)
   obtain⟨t1,rfl⟩:=rx
   cases (show _=_ from hy)
   cases ry
   exact⟨RcAt.str_bool _ _ _,RcNeAt.str_bool _ _ _,EqAt.str_bool _ _ _⟩
  |int d=>
   cases e
   cases (show _=_ from hx.1)
   obtain⟨t1,rfl⟩:=rx
   cases (show _=_ from hy)
   obtain⟨t2,rfl⟩:=ry
   exact⟨RcAt.str_int _ _ _ _,RcNeAt.str_int _ _ _ _,EqAt.str_int _ _ _ _⟩
  |str d=>
   cases e
   cases (show _=_ from hx.1)
   obtain⟨t1,rfl⟩:=rx
   cases (show _=_ from hy.1)
   obtain⟨t2,rfl⟩:=ry
   exact⟨RcAt.str_str _ _ _ _,RcNeAt.str_str _ _ _ _,EqAt.str_str _ _ _ _⟩
  |raw d=>cases e
  |dct _ _=>cases e
  |dci _ _=>cases e
  |exc d=>cases e
  |scr d=>cases e
  |tup d=>
   cases e
   cases (show _=_ from hx.1)
   obtain⟨t1,rfl⟩:=rx
   obtain⟨a2,_,_,rfl,_,_,_,_,p2⟩:=e7 I hs hy ry
   exact⟨RcAt.str_tuple _ _ p2 hu,RcNeAt.str_tuple _ _ p2 hu,EqAt.str_tuple _ _ p2 hu⟩
  |lst d=>
   cases e
   cases (show _=_ from hx.1)
   obtain⟨t1,rfl⟩:=rx
   obtain⟨a2,_,_,rfl,_,_,_,_,p2⟩:=eu I hs hy ry
   exact⟨RcAt.str_list _ _ p2 hu,RcNeAt.str_list _ _ p2 hu,EqAt.str_list _ _ p2 hu⟩
 |raw _=>cases y<;>cases e
 |dct _ _=>cases y<;>cases e
 |dci _ _=>cases y<;>cases e
 |exc _=>cases y<;>cases e
 |scr c=>cases y<;>cases e
 |tup c=>
  cases y with
  |non=>
   cases e
   obtain⟨a1,_,_,rfl,_,_,_,_,p1⟩:=e7 I hs hx rx
   cases (show _=_ from hy)
   cases ry
   exact⟨RcAt.tuple_none p1 hu,RcNeAt.tuple_none p1 hu,EqAt.tuple_none p1 hu⟩
  |bl d=>
   cases e
   obtain⟨a1,_,_,rfl,_,_,_,_,p1⟩:=e7 I hs hx rx
   cases (show _=_ from hy)
   cases ry
   exact⟨RcAt.tuple_bool _ p1 hu,RcNeAt.tuple_bool _ p1 hu,EqAt.tuple_bool _ p1 hu⟩
  |int d=>
   cases e
   obtain⟨a1,_,_,rfl,_,_,_,_,p1⟩:=e7 I hs hx rx
   cases (show _=_ from hy)
   obtain⟨t2,rfl⟩:=ry
   exact⟨RcAt.tuple_int _ _ p1 hu,RcNeAt.tuple_int _ _ p1 hu,EqAt.tuple_int _ _ p1 hu⟩
  |str d=>
   cases e
   obtain⟨a1,_,_,rfl,_,_,_,_,p1⟩:=e7 I hs hx rx
   cases (show _=_ from hy.1)
   obtain⟨t2,rfl⟩:=ry
   exact⟨RcAt.tuple_str _ _ p1 hu,RcNeAt.tuple_str _ _ p1 hu,EqAt.tuple_str _ _ p1 hu⟩
  |raw d=>cases e
  |dct _ _=>cases e
  |dci _ _=>cases e
  |exc d=>cases e
  |scr d=>cases e
  |tup d=>cases e
  |lst d=>
   cases e
   obtain⟨a1,_,_,rfl,_,_,_,_,p1⟩:=e7 I hs hx rx
   obtain⟨a2,_,_,rfl,_,_,_,_,p2⟩:=eu I hs hy ry
   exact⟨RcAt.tuple_list p1 p2 hu,RcNeAt.tuple_list p1 p2 hu,EqAt.tuple_list p1 p2 hu⟩
 |lst c=>
  cases y with
  |non=>
   cases e
   obtain⟨a1,_,_,rfl,_,_,_,_,p1⟩:=eu I hs hx rx
   cases (show _=_ from hy)
   cases ry
   exact⟨RcAt.list_none p1 hu,RcNeAt.list_none p1 hu,EqAt.list_none p1 hu⟩
  |bl d=>
   cases e
   obtain⟨a1,_,_,rfl,_,_,_,_,p1⟩:=eu I hs hx rx
   cases (show _=_ from hy)
   cases ry
   exact⟨RcAt.list_bool _ p1 hu,RcNeAt.list_bool _ p1 hu,EqAt.list_bool _ p1 hu⟩
  |int d=>
   cases e
   obtain⟨a1,_,_,rfl,_,_,_,_,p1⟩:=eu I hs hx rx
   cases (show _=_ from hy)
   obtain⟨t2,rfl⟩:=ry
   exact⟨RcAt.list_int _ _ p1 hu,RcNeAt.list_int _ _ p1 hu,EqAt.list_int _ _ p1 hu⟩
  |str d=>
   cases e
   obtain⟨a1,_,_,rfl,_,_,_,_,p1⟩:=eu I hs hx rx
   cases (show _=_ from hy.1)
   obtain⟨t2,rfl⟩:=ry
   exact⟨RcAt.list_str _ _ p1 hu,RcNeAt.list_str _ _ p1 hu,EqAt.list_str _ _ p1 hu⟩
  |raw d=>cases e
  |dct _ _=>cases e
  |dci _ _=>cases e
  |exc d=>cases e
  |scr d=>cases e
  |tup d=>
   cases e
   obtain⟨a1,_,_,rfl,_,_,_,_,p1⟩:=eu I hs hx rx
   obtain⟨a2,_,_,rfl,_,_,_,_,p2⟩:=e7 I hs hy ry
   exact⟨RcAt.list_tuple p1 p2 hu,RcNeAt.list_tuple p1 p2 hu,EqAt.list_tuple p1 p2 hu⟩
  |lst d=>cases e
end
def ev(f:D→D→Option Bool)(xs ys:List D)(j:Nat):Bool:=match xs[j]?,ys[j]? with
 |some x,some y=>(f x y).getD false
 |_,_=>false
theorem uR{f:D→D→Option Bool}:∀{xs ys:List D}{b:Bool},uQ f xs ys=some b→∀(j:Nat) (x y:D),xs[j]? =some x→ys[j]? =some y→∃c,f x y=some c
 |[],_,_,_,_,_,_,h,_=>by simp at h
 |_::_,[],_,_,_,_,_,_,h=>by simp at h
 |x::xs,y::ys,b,e,j,x',y',hx,hy=>by
  unfold uQ at e
  split at e
  ·rename_i b1 r1 e1 e2
   cases j with
   |zero=>simp at hx hy;subst hx hy;exact⟨_,e1⟩
   |succ j=>exact uR e2 j x' y' (by simpa using hx) (by simpa using hy)
  ·cases e
theorem sq{f:D→D→Option Bool}:∀{xs ys:List D}{b:Bool},uQ f xs ys=some b→b=((List.range (min xs.length ys.length)).all (ev f xs ys)&&xs.length==ys.length)
 |[],[],_,e=>by cases e;rfl
 |[],_::_,_,e=>by cases e;simp
 |_::_,[],_,e=>by cases e;simp
 |x::xs,y::ys,b,e=>by
  unfold uQ at e
  split at e
  ·rename_i b1 r1 e1 e2
   cases e
   have h:=sq e2
   rw[List.length_cons,List.length_cons,Nat.succ_min_succ,List.range_succ_eq_map,List.all_cons,List.all_map]
   have e0:ev f (x::xs) (y::ys) 0=b1:=by unfold ev;simp[e1]
   have e3:(ev f (x::xs) (y::ys)∘Nat.succ)=ev f xs ys:=by funext j;simp[ev,Function.comp]
   have e4:(xs.length+1==ys.length+1)=(xs.length==ys.length):=by simp
   rw[e0,e3,e4,h,Bool.and_assoc]
  ·cases e
section
variable{X:Cx}{pins:List (Addr×Obj)}{σ:St}{F H:Hp}{s:Shared}
theorem kc{f:D→D→Option Bool}(h:∀x y v b,Den X.K F x v→Den X.K F y v→f x y=some b→b=true):∀{xs ys:List D}{vs:List V}{b:Bool},DenL X.K F xs vs→DenL X.K F ys vs→uQ f xs ys=some b→b=true
 |[],[],_,_,_,_,e=>by cases e;rfl
 |[],_::_,_,_,h1,h2,_=>by
  cases (show _=_ from h1)
  obtain⟨v,r,z,_⟩:=h2
  cases z
 |_::_,[],_,_,h1,h2,_=>by
  cases (show _=_ from h2)
  obtain⟨v,r,z,_⟩:=h1
  cases z
 |x::xs,y::ys,_,b,⟨v,r,e1,q1,q2⟩,⟨v',r',e2,q3,q4⟩,e=>by
  subst e1
  cases e2
  unfold uQ at e
  split at e
  ·rename_i b1 r1 f1 f2
   cases e
   rw[h x y v b1 q1 q3 f1,kc h q2 q4 f2]
   rfl
  ·cases e
theorem qI{x y:D}{v:V}{b:Bool}(hx:Den X.K F x v)(hy:Den X.K F y v)(e:wV x y=some b):b=true:=by
 cases x<;>cases y<;>first
  |(cases e;done)
  |(cases e;cases (show _=_ from hx);cases (show _=_ from hy);first | rfl | simp)
  |(cases e;cases (show _=_ from hx.1);cases (show _=_ from hy.1);simp)
  |(cases e;cases (show _=_ from hx);cases (show _=_ from hy.1))
  |(cases e;cases (show _=_ from hx.1);cases (show _=_ from hy))
  |(cases e;obtain⟨_,_,z,_⟩:=hx;subst z;cases (show _=_ from hy);done)
  |(cases e;obtain⟨_,_,z,_⟩:=hx;subst z;cases (show _=_ from hy.1);done)
  |(cases e;obtain⟨_,z,_⟩:=hx;subst z;cases (show _=_ from hy);done)
  |(cases e;obtain⟨_,z,_⟩:=hx;subst z;cases (show _=_ from hy.1);done)
  |(cases e;obtain⟨_,_,z,_⟩:=hy;subst z;cases (show _=_ from hx);done)
  |(cases e;obtain⟨_,_,z,_⟩:=hy;subst z;cases (show _=_ from hx.1);done)
  |(cases e;obtain⟨_,z,_⟩:=hy;subst z;cases (show _=_ from hx);done)
  |(cases e;obtain⟨_,z,_⟩:=hy;subst z;cases (show _=_ from hx.1);done)
  |(cases e;obtain⟨_,_,z,h2,_⟩:=hx;obtain⟨_,_,z',NV,_⟩:=hy;subst z;cases z';rw[h2] at NV;cases NV;done)
  |(cases e;cases (show _=_ from hx);cases (show _=_ from hy);done)
  |(cases e;cases (show _=_ from hx.1);cases (show _=_ from hy.1);done)
theorem j_(I:Inv X pins σ H s)(hs:Same F H):∀(n:Nat) (x y:D) (v:V) (b:Bool),Den X.K F x v→Den X.K F y v→p0 n x y=some b→b=true
 |0,x,y,v,b,hx,hy,e=>qI hx hy (by unfold p0 at e;exact e)
 |n+1,x,y,v,b,hx,hy,e=>by
  unfold p0 at e
  split at e
  ·rename_i xs ys _
   obtain⟨a,vs,rfl,h2,h3,_⟩:=hx
   obtain⟨a',vs',z,k2,k3,_⟩:=hy
   cases z
   rw[h2] at k2
   cases k2
   exact kc (j_ I hs _) h3 k3 (by simpa using e)
  ·rename_i xs ys _
   obtain⟨a,vs,rfl,h2,h3,_⟩:=hx
   obtain⟨a',vs',z,k2,k3,_⟩:=hy
   cases z
   rw[h2] at k2
   cases k2
   exact kc (j_ I hs _) h3 k3 (by simpa using e)
  ·rename_i xs ys _
   obtain⟨a,rfl,h2,_⟩:=hx
   obtain⟨a',vs',z,k2,k3,_⟩:=hy
   cases z
   have hv:=I.list_inj (Same.seq hs h2) (SqL.of (hs _ _ k2))
   rw[←hv] at k3
   exact kc (j_ I hs _) (DenL.ints xs) k3 (by simpa using e)
  ·exact qI hx hy e
theorem Vals.at{vs:List V}{aB:List Value}(r:Vals vs aB){j:Nat}(h:j<aB.toArray.size):∃v,vs[j]? =some v∧RelV v aB.toArray[j]:=by
 have hl:=r.length
 have hj:j<vs.length:=by rw[List.size_toArray] at h;omega
 obtain⟨u,e1,e2⟩:=r.get (List.getElem?_eq_getElem hj)
 refine⟨vs[j],List.getElem?_eq_getElem hj,?_⟩
 have:aB.toArray[j]=u:=by
  have:=(List.getElem?_eq_some_iff.mp e1).2
  simpa using this
 rw[this]
 exact e2
theorem nq{f:D→D→Option Bool}{A:Around}{xs ys:List D}{vs ws:List V}{aB fH:List Value}{b:Bool}(h1:DenL X.K F xs vs)(h2:DenL X.K F ys ws)(r1:Vals vs aB)(r2:Vals ws fH)(e:uQ f xs ys=some b)
 (ih:∀x y v w u t c,Den X.K F x v→Den X.K F y w→RelV v u→RelV w t→f x y=some c→EqAt A s u t c):
 ∀j (k1:j<aB.toArray.size) (k2:j<fH.toArray.size),EqAt A s aB.toArray[j] fH.toArray[j] (ev f xs ys j):=fun j k1 k2=>by
 obtain⟨v,e1,q1⟩:=Vals.at r1 k1
 obtain⟨w,e2,q2⟩:=Vals.at r2 k2
 obtain⟨x,e3,q3⟩:=h1.at e1
 obtain⟨y,e4,q4⟩:=h2.at e2
 obtain⟨c,hc⟩:=uR e j x y e3 e4
 have:ev f xs ys j=c:=by unfold ev;rw[e3,e4];simp[hc]
 rw[this]
 exact ih x y v w _ _ c q3 q4 q1 q2 hc
theorem qX{f:D→D→Option Bool}{A:Around}(hu:A.units<cLine){xs ys:List D}{vs ws:List V}{aB fH:List Value}{b:Bool}{a a':Addr}(h1:DenL X.K F xs vs)(h2:DenL X.K F ys ws)(r1:Vals vs aB)(r2:Vals ws fH)
 (p1:s.heap.IsList a aB.toArray)(p2:s.heap.IsList a' fH.toArray)(e:uQ f xs ys=some b)(hr:a=a'→b=true)
 (ih:∀x y v w u t c,Den X.K F x v→Den X.K F y w→RelV v u→RelV w t→f x y=some c→EqAt A.in1 s u t c):EqAll A s (.ref a) (.ref a') b:=by
 have l1:=h1.len
 have l2:=h2.len
 have l3:=r1.length
 have l4:=r2.length
 have hv:=sq e
 have core:RcAt A s (.ref a) (.ref a') b∧RcNeAt A s (.ref a) (.ref a') (!b):=by
  by_cases hl:xs.length=ys.length
  ·have hsz:aB.toArray.size=fH.toArray.size:=by rw[List.size_toArray,List.size_toArray];omega
   have hb:b=(List.range aB.toArray.size).all (ev f xs ys):=by
    rw[hv,hl,Nat.min_self,beq_self_eq_true,Bool.and_true]
    congr 2
    rw[List.size_toArray];omega
   rw[hb]
   exact⟨RcAt.lists p1 p2 hsz hu (nq h1 h2 r1 r2 e ih),RcNeAt.lists p1 p2 hsz hu (nq h1 h2 r1 r2 e ih)⟩
  ·have hb:b=false:=by rw[hv,show (xs.length==ys.length)=false from by simpa using hl,Bool.and_false]
   have hsz:(aB.toArray.size !=fH.toArray.size)=true:=by
    rw[List.size_toArray,List.size_toArray]
    simp
    omega
   rw[hb]
   exact⟨RcAt.lists_lengths p1 p2 hsz hu,RcNeAt.lists_lengths p1 p2 hsz hu⟩
 refine⟨core.1,core.2,?_⟩
 by_cases hq:a=a'
 ·rw[hr hq]
  subst hq
  exact EqAt.same _
 ·exact EqAt.of_refs hq core.1
theorem xY{f:D→D→Option Bool}{A:Around}(hu:A.units<cLine){xs ys:List D}{vs ws:List V}{aB fH:List Value}{b:Bool}{a a':Addr}(h1:DenL X.K F xs vs)(h2:DenL X.K F ys ws)(r1:Vals vs aB)(r2:Vals ws fH)
 (p1:s.heap.IsTuple a aB.toArray)(p2:s.heap.IsTuple a' fH.toArray)(e:uQ f xs ys=some b)(hr:a=a'→b=true)
 (ih:∀x y v w u t c,Den X.K F x v→Den X.K F y w→RelV v u→RelV w t→f x y=some c→EqAt A.in1 s u t c):EqAll A s (.ref a) (.ref a') b:=by
 have l1:=h1.len
 have l2:=h2.len
 have l3:=r1.length
 have l4:=r2.length
 have hb:b=((List.range (min aB.toArray.size fH.toArray.size)).all (ev f xs ys)&&aB.toArray.size==fH.toArray.size):=by
  rw[sq e,List.size_toArray,List.size_toArray,←l3,←l4,←l1,←l2]
 have core:RcAt A s (.ref a) (.ref a') b∧RcNeAt A s (.ref a) (.ref a') (!b):=by
  rw[hb]
  exact⟨RcAt.tuples p1 p2 hu (nq h1 h2 r1 r2 e ih),RcNeAt.tuples p1 p2 hu (nq h1 h2 r1 r2 e ih)⟩
 refine⟨core.1,core.2,?_⟩
 by_cases hq:a=a'
 ·rw[hr hq]
  subst hq
  exact EqAt.same _
 ·exact EqAt.of_refs hq core.1
theorem sr(I:Inv X pins σ H s)(hs:Same F H):∀(n:Nat) (A:Around) (x y:D) (v w:V) (u t:Value) (b:Bool),A.units+n<cLine→Den X.K F x v→Den X.K F y w→RelV v u→RelV w t→p0 n x y=some b→EqAll A s u t b
 |0,A,x,y,v,w,u,t,b,hu,hx,hy,rx,ry,e=>uS I hs (by omega) hx hy rx ry (by unfold p0 at e;exact e)
 |n+1,A,x,y,v,w,u,t,b,hu,hx,hy,rx,ry,e=>by
  have LB:A.units<cLine:=by omega
  have Qs:A.in1.units+n<cLine:=by show A.units+1+n<cLine;omega
  have hrefl:=j_ (F:=F) I hs (n+1) x y
  have ih:∀x y v w u t c,Den X.K F x v→Den X.K F y w→RelV v u→RelV w t→p0 n x y=some c→EqAt A.in1 s u t c:=fun x y v w u t c q1 q2 q3 q4 q5=>(sr I hs n A.in1 x y v w u t c Qs q1 q2 q3 q4 q5).eq
  have e0:=e
  unfold p0 at e
  split at e
  ·rename_i xs ys heq
   cases heq
   obtain⟨a,vs,aB,rfl,Jo,h2,h3,r1,p1⟩:=e7 I hs hx rx
   obtain⟨a',vs',its',rfl,Jp,k2,k3,KC,Kp⟩:=e7 I hs hy ry
   exact xY LB h3 k3 r1 KC p1 Kp e (fun z=>by subst z;exact hrefl v b hx (by rw[Jo,←Jp];exact hy) e0) ih
  ·rename_i xs ys heq
   cases heq
   obtain⟨a,vs,aB,rfl,Jo,h2,h3,r1,p1⟩:=eu I hs hx rx
   obtain⟨a',vs',its',rfl,Jp,k2,k3,KC,Kp⟩:=eu I hs hy ry
   exact qX LB h3 k3 r1 KC p1 Kp e (fun z=>by subst z;exact hrefl v b hx (by rw[Jo,←Jp];exact hy) e0) ih
  ·rename_i xs ys heq
   cases heq
   obtain⟨a,aB,rfl,Jo,h2,r1,p1⟩:=Im I hs hx rx
   obtain⟨a',vs',its',rfl,Jp,k2,k3,KC,Kp⟩:=eu I hs hy ry
   exact qX LB (DenL.ints _) k3 r1 KC p1 Kp e (fun z=>by subst z;exact hrefl v b hx (by rw[Jo,←Jp];exact hy) e0) ih
  ·exact uS I hs LB hx hy rx ry e
end
def nu(x y:D):M D:=match p0 6 x y with | some b=>M.ret (.bl b) | none=>M.stuck
def qJ(x y:D):M D:=match p0 6 x y with | some b=>M.ret (.bl (!b)) | none=>M.stuck
def KG(K:W.Frag):R2:=fun x y H Q=>∃F dx dy b,Same F H∧Den K F dx x∧Den K F dy y∧p0 6 dx dy=some b∧Q (.bl b) H
def KO(K:W.Frag):R2:=fun x y H Q=>∃F dx dy b,Same F H∧Den K F dx x∧Den K F dy y∧p0 6 dx dy=some b∧Q (.bl (!b)) H
section
variable{X:Cx}{Xw:Nat→Hp→Prop}{a b:Expr}{δa δb:DE}{pos:Pos}
theorem Cf(hu:X.A.units+64<cLine):OpR X (compareOp .Eq) (KG X.K):=by
 intro pins s σ H x y v u Q I rx ry h
 obtain⟨F,dx,dy,b,hs,hx,hy,e,q⟩:=h
 exact(sr I hs 6 X.A dx dy x y v u b (by omega) hx hy rx ry e).rc _ _ _ _ ⟨.bl b,H,I,rfl,q⟩
theorem HD(hu:X.A.units+64<cLine):OpR X (compareOp .NotEq) (KO X.K):=by
 intro pins s σ H x y v u Q I rx ry h
 obtain⟨F,dx,dy,b,hs,hx,hy,e,q⟩:=h
 exact(sr I hs 6 X.A dx dy x y v u b (by omega) hx hy rx ry e).ne _ _ _ _ ⟨.bl (!b),H,I,rfl,q⟩
theorem Cg{K:W.Frag}:ux K (KG K) nu:=fun Xw F H x y dx dy Q s hx hy w=>by
 unfold nu at w
 split at w
 ·rename_i b e
  exact⟨F,dx,dy,b,s,hx,hy,e,WP.now w s rfl⟩
 ·exact w.elim
theorem HF{K:W.Frag}:ux K (KO K) qJ:=fun Xw F H x y dx dy Q s hx hy w=>by
 unfold qJ at w
 split at w
 ·rename_i b e
  exact⟨F,dx,dy,b,s,hx,hy,e,WP.now w s rfl⟩
 ·exact w.elim
theorem y0(hu:X.A.units+64<cLine)(ha:PD X Xw a δa)(hb:PD X Xw b δb):k9 X Xw (.Compare a [.Eq] [b] pos) (bS (d2 nu δa δb)):=dH (Cf hu) Cg ha hb
theorem jI(hu:X.A.units+64<cLine)(ha:PD X Xw a δa)(hb:PD X Xw b δb):k9 X Xw (.Compare a [.NotEq] [b] pos) (bS (d2 qJ δa δb)):=dH (HD hu) HF ha hb
theorem vK(hu:X.A.units+64<cLine)(ha:PD X Xw a δa)(hb:PD X Xw b δb):PD X Xw (.Compare a [.Eq] [b] pos) (d2 nu δa δb):=Cr (Cf hu) Cg ha hb
end
def PDW(X:Cx)(Xw:Nat→Hp→Prop)(e:Expr)(δ:DT):Prop:=PW X e (Nr X.K Xw δ)
theorem PW.weak{X:Cx}{e:Expr}{t t':TT}(h:PW X e t)(k:∀σ H Q,t' σ H Q→t σ H Q):PW X e t':=fun wh pins s σ H Q I w=>h wh pins s σ H Q I (k σ H Q w)
section
variable{X:Cx}{Xw:Nat→Hp→Prop}{a b c:Expr}{rest:List Expr}{δa δb δc:DE}{τa τb:DT}{pos:Pos}
theorem o7(ha:k9 X Xw a τa):PDW X Xw (.BoolOp .And [a] pos) τa:=Fj ha
theorem dG(ha:k9 X Xw a τa):PDW X Xw (.BoolOp .Or [a] pos) τa:=Ig ha
theorem tJ(ha:k9 X Xw a τa)(hb:PDW X Xw (.BoolOp .And (b::rest) pos) τb):PDW X Xw (.BoolOp .And (a::b::rest) pos) (pY τa τb):=PW.weak (Ie ha hb) fun σ H Q ⟨F,ρ,s,w⟩=>by
 refine⟨F,ρ,s,WPB.mono (WPB.bindB w) fun v H1 ⟨F1,e1,w1⟩=>?_⟩
 cases v with
 |true=>exact⟨F1,ρ,s.ext e1,w1⟩
 |false=>exact w1 _ _ (Ext.refl e1.fh)
theorem eZ(ha:k9 X Xw a τa)(hb:PDW X Xw (.BoolOp .Or (b::rest) pos) τb):PDW X Xw (.BoolOp .Or (a::b::rest) pos) (jP τa τb):=PW.weak (KA ha hb) fun σ H Q ⟨F,ρ,s,w⟩=>by
 refine⟨F,ρ,s,WPB.mono (WPB.bindB w) fun v H1 ⟨F1,e1,w1⟩=>?_⟩
 cases v with
 |false=>exact⟨F1,ρ,s.ext e1,w1⟩
 |true=>exact w1 _ _ (Ext.refl e1.fh)
theorem PDW.t(h:PDW X Xw a τa):k9 X Xw a τa:=PW.pt h
theorem cC(ha:k9 X Xw a τa):k9 X Xw (.UnaryOp .Not a pos) (cH τa):=PT.weak (Ib ha) fun σ H Q ⟨F,ρ,s,w⟩=>
 ⟨F,ρ,s,WPB.mono (WPB.bindB w) fun v H1 ⟨F1,e1,w1⟩=>w1 _ _ (Ext.refl e1.fh)⟩
def wa:D→M Bool
 | .non=>M.ret false
 | .bl b=>M.ret b
 | .lst ds=>M.ret (!ds.isEmpty)
 | .tup ds=>M.ret (!ds.isEmpty)
 |_=>M.stuck
def cx(δ:DE):DT:=fun ρ=>δ ρ>>=wa
theorem DenL.isEmpty{K:W.Frag}{F:Hp}{ds:List D}{vs:List V}(h:DenL K F ds vs):ds.isEmpty=vs.isEmpty:=by
 have:=h.len
 cases ds<;>cases vs<;>simp_all
theorem c_(ha:PD X Xw a δa)(he:∀whole,isTrue a X.env whole=(do let v←whole;standAt a.pos;holding [v] (truthy v)):=by intro _;rfl):k9 X Xw a (cx δa):=PT.weak (CT ha he) fun σ H Q ⟨F,ρ,s,w⟩=>by
 refine⟨F,ρ,s,WP.mono (WPB.bind (K:=X.K) w) fun v H1 ⟨F1,d,e1,q1,w1⟩=>?_⟩
 cases d with
 |non=>cases (show _=_ from q1);exact⟨false,rfl,w1 _ _ (Ext.refl e1.fh)⟩
 |bl b=>cases (show _=_ from q1);exact⟨b,rfl,w1 _ _ (Ext.refl e1.fh)⟩
 |lst ds=>
  obtain⟨a,vs,rfl,h2,h3,_⟩:=q1
  exact⟨!ds.isEmpty, .inl ⟨vs,SqL.of (e1.fh _ _ h2),by rw[h3.isEmpty]⟩,w1 _ _ (Ext.refl e1.fh)⟩
 |tup ds=>
  obtain⟨a,vs,rfl,h2,h3,_⟩:=q1
  exact⟨!ds.isEmpty, .inr (.inl ⟨vs,SqT.of (e1.fh _ _ h2),by rw[h3.isEmpty]⟩),w1 _ _ (Ext.refl e1.fh)⟩
 |_=>exact w1.elim
theorem xJ{op}(h:PD X Xw a δa):PD X Xw (.BoolOp op [a] pos) δa:=HS h
theorem tu(ha:PD X Xw a δa)(hb:PD X Xw (.BoolOp .And (b::rest) pos) δb):PD X Xw (.BoolOp .And (a::b::rest) pos) (fw δa δb):=PE.weak (HM ha hb) fun σ H Q ⟨F,ρ,s,w⟩=>by
 refine⟨F,ρ,s,WP.mono (WP.bind w) fun v H1 ⟨F1,d,e1,q1,w1⟩=>?_⟩
 cases d with
 |bl k=>
  refine⟨k,q1,?_⟩
  cases k with
  |true=>exact⟨F1,ρ,s.ext e1,w1⟩
  |false=>exact WP.now w1 e1.fh rfl
 |_=>exact w1.elim
theorem HK(ha:PD X Xw a δa):PD X Xw (.UnaryOp .Not a pos) (FT δa):=PE.weak (HR ha) fun σ H Q ⟨F,ρ,s,w⟩=>by
 refine⟨F,ρ,s,WP.mono (WP.bind w) fun v H1 ⟨F1,d,e1,q1,w1⟩=>?_⟩
 cases d with
 |bl k=>exact⟨k,q1,WP.now w1 e1.fh rfl⟩
 |_=>exact w1.elim
theorem Kq(hc:k9 X Xw c τa)(ha:PD X Xw a δa)(hb:PD X Xw b δb):PD X Xw (.IfExp c a b pos) (FR τa δa δb):=PE.weak (CJ hc ha hb) fun σ H Q ⟨F,ρ,s,w⟩=>by
 refine⟨F,ρ,s,WPB.mono (WP.bindB w) fun v H1 ⟨F1,e1,w1⟩=>?_⟩
 cases v with
 |true=>exact⟨F1,ρ,s.ext e1,w1⟩
 |false=>exact⟨F1,ρ,s.ext e1,w1⟩
def uF(p q:Int→Int→Bool)(a b c:DE):DE:=fun ρ=>a ρ>>=fun x=>b ρ>>=fun y=>match x,y with
 | .int i, .int j=>if p i j then c ρ>>=fun z=>gI (fun i j=> .bl (q i j)) y z else M.ret (.bl false)
 |_,_=>M.stuck
theorem rS{p q:Int→Int→Bool}:∀σ H Q,tD X.K Xw (uF p q δa δb δc) σ H Q→xX (xM fun i j=> .bl (p i j)) (xM fun i j=> .bl (q i j)) (tD X.K Xw δa) (tD X.K Xw δb) (tD X.K Xw δc) σ H Q:=fun σ H Q ⟨F,ρ,s,w⟩=>by
 refine⟨F,ρ,s,WP.mono (WP.bind w) fun v H1 ⟨F1,d,e1,q1,w1⟩=>?_⟩
 refine⟨F1,ρ,s.ext e1,WP.mono (WP.bind w1) fun u H2 ⟨F2,d',e2,q2,w2⟩=>?_⟩
 cases d with
 |int i=>
  cases d' with
  |int j=>
   refine⟨i,j,q1,q2,p i j,rfl,?_⟩
   have w2:WP X.K Xw F2 H2 (if p i j then δc ρ>>=fun z=>gI (fun i j=> .bl (q i j)) (.int j) z else M.ret (.bl false)) Q:=w2
   cases hp:p i j with
   |false=>
    rw[hp] at w2
    exact WP.now w2 e2.fh rfl
   |true=>
    rw[hp] at w2
    refine⟨F2,ρ,(s.ext e1).ext e2,WP.mono (WP.bind w2) fun u' H3 ⟨F3,OW,e3,q3,w3⟩=>?_⟩
    exact rj (K:=X.K) (gv:=fun i j=> .bl (q i j)) (gd:=fun i j=> .bl (q i j)) (fun _ _ _=>rfl) Xw F3 H3 u u' (.int j) OW Q e3.fh q2 q3 w3
  |_=>exact w2.elim
 |_=>exact w2.elim
theorem Cq{op xB:CmpOp}{p q:Int→Int→Bool}(ho:OpR X (compareOp op) (xM fun i j=> .bl (p i j)))(qL:OpR X (compareOp xB) (xM fun i j=> .bl (q i j)))(ha:PD X Xw a δa)(hb:PD X Xw b δb)(hc:PD X Xw c δc)
 (hm:lastMarks [op,xB] [b,c]=false:=by with_unfolding_all rfl):PD X Xw (.Compare a [op,xB] [b,c] pos) (uF p q δa δb δc):=PE.weak (CF ho qL ha hb hc hm) rS
theorem tM{op xB:CmpOp}{p q:Int→Int→Bool}(ho:OpR X (compareOp op) (xM fun i j=> .bl (p i j)))(qL:OpR X (compareOp xB) (xM fun i j=> .bl (q i j)))(ha:PD X Xw a δa)(hb:PD X Xw b δb)(hc:PD X Xw c δc)
 (hm:lastMarks [op,xB] [b,c]=false:=by with_unfolding_all rfl):k9 X Xw (.Compare a [op,xB] [b,c] pos) (bS (uF p q δa δb δc)):=PT.weak (CS ho qL ha hb hc hm) fun σ H Q ⟨F,ρ,s,w⟩=>by
 refine rS σ H _ ⟨F,ρ,s,WP.mono (WPB.bind w) fun v H1 ⟨F1,d,e1,q1,w1⟩=>?_⟩
 cases d with
 |bl k=>exact⟨k,q1,w1 _ _ (Ext.refl e1.fh)⟩
 |_=>exact w1.elim
def uw(K:W.Frag)(r:List V→Hp→VK→Prop)(g:List D→M D):Prop:=∀(Xw:Nat→Hp→Prop) (F H:Hp) (vs:List V) (ds:List D) (Q:VK),Same F H→DenL K F ds vs→WP K Xw F H (g ds) Q→r vs H Q
variable{x:Str}{p:Pos}{e:Expr}{es:List Expr}{δs:DA}{id T:String}{r:List V→Hp→VK→Prop}{g:List D→M D}
theorem Dj(h:uw X.K r g):∀σ H Q,tD X.K Xw (dA g δs) σ H Q→Np r (OP X.K Xw δs) σ H Q:=fun σ H Q ⟨F,ρ,s,w⟩=>
 ⟨F,ρ,s,WPL.mono (WP.bindL w) fun vs H1 ⟨F1,ds,e1,q1,w1⟩=>h Xw F1 H1 vs ds Q e1.fh q1 w1⟩
theorem d5(hc:CallR X (.builtin id) r)(hd:uw X.K r g)(hg:Gl X x)(hm:X.mg x=none)(hv:bootBuiltins x=some (.builtin id))(ha:lg X Xw (e::es) δs)(hn:x≠"__name__":=by decide)(sx:(x==("__debug__":Str))=false:=by decide)
 (he:starEach (e::es) X.env=(false,eval e X.env)::starEach es X.env:=by rfl)(pS:(backTo pos (starEach es X.env)).any (·.1)=false:=by rfl):PD X Xw (.Call (.Name x p) (e::es) [] pos) (dA g δs):=
 PE.weak (CD hc hg hm hv ha hn sx he pS) (Dj hd)
theorem Ak(hc:CallR X (.type T) r)(hd:uw X.K r g)(hg:Gl X x)(hm:X.mg x=none)(hv:bootBuiltins x=some (.type T))(ha:lg X Xw (e::es) δs)(hn:x≠"__name__":=by decide)(sx:(x==("__debug__":Str))=false:=by decide)
 (he:starEach (e::es) X.env=(false,eval e X.env)::starEach es X.env:=by rfl)(pS:(backTo pos (starEach es X.env)).any (·.1)=false:=by rfl):PD X Xw (.Call (.Name x p) (e::es) [] pos) (dA g δs):=
 PE.weak (An hc hg hm hv ha hn sx he pS) (Dj hd)
def bb:List D→M D
 |[.lst ds]=>M.ret (.int ds.length)
 |[.tup ds]=>M.ret (.int ds.length)
 |[.str x]=>M.ret (.int x.length)
 |[.scr ns]=>M.ret (.int ns.length)
 |_=>M.stuck
theorem zW:uw X.K (fun xs H Q=>(∃p ys,xs=[.ref p]∧(SqL X.K H p ys∨SqT X.K H p ys)∧Q (.int ys.length) H)∨∃z,xs=[.str z]∧z.length≤sizeLine∧Q (.int z.length) H) bb:=fun Xw F H vs ds Q s h w=>by
 unfold bb at w
 split at w
 ·obtain⟨v,rfl,h1⟩:=h.one
  obtain⟨a,vs,rfl,h2,h3,_⟩:=h1
  exact .inl ⟨a,vs,rfl, .inl (SqL.of (s _ _ h2)),by rw[←h3.len];exact WP.now w s rfl⟩
 ·obtain⟨v,rfl,h1⟩:=h.one
  obtain⟨a,vs,rfl,h2,h3,_⟩:=h1
  exact .inl ⟨a,vs,rfl, .inr (SqT.of (s _ _ h2)),by rw[←h3.len];exact WP.now w s rfl⟩
 ·obtain⟨v,rfl,h1⟩:=h.one
  cases (show _=_ from h1.1)
  exact .inr ⟨_,rfl,by have:=h1.2;have:=eX;omega,WP.now w s rfl⟩
 ·obtain⟨v,rfl,h1⟩:=h.one
  obtain⟨a,rfl,h2,_⟩:=h1
  exact .inl ⟨a,_,rfl, .inl (Same.seq s h2),by rw[List.length_map];exact WP.now w s rfl⟩
 ·exact w.elim
theorem bG(hg:Gl X "len")(hm:X.mg "len"=none)(ha:lg X Xw [e] δs)(he:starEach [e] X.env=[(false,eval e X.env)]:=by rfl):PD X Xw (.Call (.Name "len" p) [e] [] pos) (dA bb δs):=
 d5 (sf.or si) zW hg hm PySem.boot_len ha (by decide) (by decide) he rfl
def AU:List D→M D
 |[.int i]=>M.ret (.int (if i<0 then -i else i))
 |_=>M.stuck
def xj:List D→M D
 |[.int i, .int j]=>M.ret (.int (if j>i then j else i))
 |_=>M.stuck
def z6:List D→M D
 |[.int i, .int j]=>M.ret (.int (if j<i then j else i))
 |_=>M.stuck
theorem Cm(hg:Gl X "abs")(hm:X.mg "abs"=none)(ha:lg X Xw [e] δs)(hb:bootBuiltins "abs"=some (.builtin "abs"))(he:starEach [e] X.env=[(false,eval e X.env)]:=by rfl):PD X Xw (.Call (.Name "abs" p) [e] [] pos) (dA AU δs):=
 d5 AZ (fun Xw F H vs ds Q s h w=>by
  unfold AU at w
  split at w
  ·obtain⟨v,rfl,h1⟩:=h.one
   cases (show _=_ from h1)
   exact⟨_,rfl,WP.now w s rfl⟩
  ·exact w.elim) hg hm hb ha (by decide) (by decide) he rfl
end
theorem WP.xw{K:W.Frag}{Xw Xw':Nat→Hp→Prop}{F H:Hp}{m:M D}{Q:VK}(h:WP K Xw F H m Q)(k:∀n H,Xw n H→Xw' n H):WP K Xw' F H m Q:=by
 match m,h with
 |none,h=>exact h
 |some (.ok d),h=>exact h
 |some (.ex n),h=>exact fun F' H' e=>k n H' (h F' H' e)
theorem da{X:Cx}{Xw:Nat→Hp→Prop}{st:Stmt}{τ:DS}(h:gL X.nox (fun _ _=>False) st τ):gL X Xw st (fun ρ=>noex (τ ρ)):=fun F₀ H₀ pins s σ H D I ⟨F,ρ,S,w⟩=>by
 have w:WPS X.K Xw F₀ H₀ (noex (τ ρ)) D:=w
 have w':tS X.K (fun _ _=>False) F₀ H₀ τ D σ H:=by
  refine⟨F,ρ,S,?_⟩
  rcases(τ ρ).cs with e | ⟨n,e⟩ | ⟨o,e⟩
  ·rw[e] at w;exact w.elim
  ·rw[e] at w;exact w.elim
  ·rw[e] at w⊢
   cases o with
   |nx ρ'=>exact w
   |rt d=>exact w
 refine wpAny_mono (h F₀ H₀ pins s σ H D (I.wish _) w') (fun f s' q=>SP.unwish q) fun _ _ z=>z.elim
def EX(cv:Nat→Value)(Xw:Nat→Hp→Prop):XK:=fun c _ H=>∃n,c=cv n∧Xw n H
def IP(K:W.Frag)(cv:Nat→Value)(k:Nat)(f:List D→M D):Sp:=fun vs H Q E=>∃F ds,Same F H∧DenL K F ds vs∧vs.length=k∧WP K (fun n H'=>E (cv n) none H') F H (f ds) Q
def bO(n:Nat)(τ:DS):List D→M D:=fun ds=>τ (ds.map (fun d=>some (Sl.fz d))++List.replicate (n - ds.length) none)>>=fun o=>match o with
 | .nx _=>M.ret .non
 | .rt d=>M.ret d
section
variable{P:Program}{w:World}{K:W.Frag}{mg:Str→Option Value}{base:Heap}{CX:wG}{cv:Nat→Value}
theorem Jq{x qual:Str}{st:Stmt}{f:Addr}{fd:FuncData}{N ps:List Str}{k:Nat}{τ:DS}(Fn:Fun K x qual st f fd)(S:FnScope N ps (af st))
 (nZ:∀(bc:Value) (A:Around) (outer:List Env) (s:Shared) (H:Hp) (E:XK),Room k (A.deeper (envOfC qual (af st) s.heap.objs.size f bc))→
  PSDs (dj CX P w K mg base N qual (af st) f bc A outer s H E) (fun n H'=>E (cv n) none H') (aR st) τ):FnOk P w K mg base CX (k+1) f fd ps (IP K cv ps.length (bO N.length τ)):=by
 obtain⟨oc,od,kV,doc,pm,an,bc,ct,EO,rfl,lk,wC⟩:=Fn.ex
 refine FY lk wC S (fun vs H Q E ⟨_,_,_,_,hl,_⟩=>hl) fun A outer s H vs Q E hr DJ=>?_
 obtain⟨F,ds,fh,hd,hl,hw⟩:=DJ
 refine⟨_,nZ bc A outer s H E hr F H,F,ds.map (fun d=>some (Sl.fz d))++List.replicate (N.length - ds.length) none,⟨Ext.refl fh,⟨fh,fun i sl e=>?_⟩,?_,fun i c a e=>?_,fun i j c c' a e=>?_⟩,?_⟩
 ·have hlen:=hd.len
  by_cases hi:i<ds.length
  ·rw[List.getElem?_append_left (by simpa using hi),List.getElem?_map] at e
   cases q:ds[i]? with
   |none=>rw[q] at e;cases e
   |some d=>
    rw[q] at e
    cases e
    obtain⟨v,e1,e2⟩:=hd.get q
    refine⟨v,?_,e2⟩
    unfold L2.start
    rw[List.getElem?_append_left (by simp;omega),List.getElem?_map,e1]
    rfl
  ·rw[List.getElem?_append_right (by simpa using hi),List.getElem?_replicate] at e
   split at e<;>cases e
 ·have hlen:=hd.len
  unfold L2.start
  simp[hlen]
 ·exfalso
  by_cases hi:i<ds.length
  ·rw[List.getElem?_append_left (by simpa using hi),List.getElem?_map] at e
   cases q:ds[i]? with
   |none=>rw[q] at e;cases e
   |some d=>rw[q] at e;cases e
  ·rw[List.getElem?_append_right (by simpa using hi),List.getElem?_replicate] at e
   split at e<;>cases e
 ·exfalso
  by_cases hi:i<ds.length
  ·rw[List.getElem?_append_left (by simpa using hi),List.getElem?_map] at e
   cases q:ds[i]? with
   |none=>rw[q] at e;cases e
   |some d=>rw[q] at e;cases e
  ·rw[List.getElem?_append_right (by simpa using hi),List.getElem?_replicate] at e
   split at e<;>cases e
 ·have hw:WP K (fun n H'=>E (cv n) none H') F H (τ (ds.map (fun d=>some (Sl.fz d))++List.replicate (N.length - ds.length) none)>>=fun o=>match o with | .nx _=>M.ret .non | .rt d=>M.ret d) Q:=hw
  rcases(τ (ds.map (fun d=>some (Sl.fz d))++List.replicate (N.length - ds.length) none)).cs with e | ⟨n,e⟩ | ⟨o,e⟩
  ·rw[e] at hw;exact hw.elim
  ·rw[e] at hw⊢;exact hw
  ·rw[e] at hw⊢
   cases o with
   |nx ρ'=>exact fun σ' F' H' s'=>hw .non H' F' s'.ext rfl
   |rt d=>exact fun v F' H' e' q=>hw v H' F' e' q
end
section
variable{X:Cx}{Xw:Nat→Hp→Prop}{CX:wG}{cv:Nat→Value}{k m:Nat}{f:Addr}{fd:FuncData}{ps:List Str}{g:List D→M D}{x:Str}{p pos:Pos}{e:Expr}{es:List Expr}{δs:DA}
theorem ER(F:FnOk X.prog X.w X.K X.mg X.base CX k f fd ps (IP X.K cv m g))(hr:Room k X.A)(hg:Gl X x)(hm:X.mg x=some (.ref f))(hk:PySem.W.keepIn X.K (.ref f)=true)(hb:Binds X.K fd ps [])(hx:Passes CX X (EX cv Xw))
 (ha:lg X Xw (e::es) δs)(hl:(e::es).length=m)(sx:(x==("__debug__":Str))=false:=by decide)(he:starEach (e::es) X.env=(false,eval e X.env)::starEach es X.env:=by rfl)(pS:(backTo pos (starEach es X.env)).any (·.1)=false:=by rfl):
 PD X Xw (.Call (.Name x p) (e::es) [] pos) (fun ρ=>δs ρ>>=fun ds=>if ds.length=m then g ds else M.stuck):=PE.weak (E3 F hr hg hm hk hb .nil hx ha sx he pS) fun σ H Q ⟨F,ρ,s,w⟩=>by
 refine⟨F,ρ,s,WPL.mono (WP.bindL w) fun vs H1 ⟨F1,ds,e1,q1,w1⟩=>?_⟩
 split at w1
 ·rename_i Gf
  refine⟨F1,ds,e1.fh,by simpa using q1,by rw[List.append_nil,←q1.len];exact Gf,WP.xw w1 fun n H h=>⟨n,rfl,h⟩⟩
 ·exact w1.elim
theorem yV{x:Str}{d:D}{v:V}{u:Value}(hg:Gl X x)(hm:X.mg x=some u)(r:RelV v u)(hd:∀F,Den X.K F d v)(sx:(x==("__debug__":Str))=false:=by decide):PD X Xw (.Name x pos) (dC d):=
 gD (E6 hg hm r sx) hd
end
theorem obj_some{P:Program}{w:World}{H:Hp}{h:Heap}{a:Addr}{o:HO}(x:ObjOk P w H h a o):∃ob,h.get? a=some ob:=by
 cases o with
 |lst xs=>obtain⟨_,_,_,_,e⟩:=x;exact⟨_,e⟩
 |tup xs=>obtain⟨_,_,_,ob,e,_⟩:=x;exact⟨_,e⟩
 |dK aw=>obtain⟨_,_,_,_,o,_,_,e,_⟩:=x;exact⟨_,e⟩
 |dT aw=>obtain⟨_,_,_,_,o,_,_,e,_⟩:=x;exact⟨_,e⟩
 |set S n=>obtain⟨o,_,_,_,e,_⟩:=x;exact⟨_,e⟩
 |ins C dx fs=>obtain⟨_,_,_,e,_⟩:=x;exact⟨_,e⟩
 |own y=>obtain⟨_,e⟩:=x;exact⟨_,e⟩
 |xd fs=>obtain⟨_,⟨_,_,_,e,_⟩,_⟩:=x;exact⟨_,e⟩
 |rng lo hi=>obtain⟨_,_,_,e⟩:=x;exact⟨_,e⟩
 |frz ob u=>obtain⟨e,_⟩:=x;exact⟨_,e⟩
 |tbl ps=>exact⟨_,(show h.get? a=some _ from x)⟩
 |met f y=>exact⟨_,(show h.get? a=some _ from x)⟩
 |ext φ=>obtain⟨_,⟨_,e⟩,_⟩:=x;exact⟨_,e⟩
def jy(P:Program)(w:World)(cv:Nat→Value):wG:=fun outer H s E e s'=>∃(ea:Addr) (n:Nat) (a0:Value) (B:Heap) (H':Hp),e= .ref ea∧s'.os=s.os∧AllBare s'.gens∧HOk P w H' s'.heap∧Un (nr outer) [] H H' s.heap s'.heap∧
 Heap.FlyingW B outer ea (cv n) a0 s'.heap∧(∀b o,s'.heap.get? b=some o→(H' b≠none∨(s.heap.get? b).isSome=true)→b∉nr outer→B.get? b=some o)∧E (cv n) none H'
section
variable{P:Program}{w:World}{fs:List Addr}{H₀ H:Hp}{h₀ h h':Heap}
theorem FJ(u:Un fs [] H₀ H h₀ h)(ka:∀b o,h.get? b=some o→b∉fs→(H b≠none∨(h₀.get? b).isSome=true)→h'.get? b=some o)(kb:∀b o,h.get? b=some o→b∈fs→∃sl,h'.get? b=some {o with slots:=sl}):Un fs [] H₀ H h₀ h' where
 keep:=fun b o e n hb hx=>ka b o (u.keep b o e n hb hx) hb (.inr (by rw[e];rfl))
 slot:=fun b o e n hb hx=>by
  obtain⟨sl,q⟩:=u.slot b o e n hb hx
  obtain⟨Io,q'⟩:=kb b _ q hb
  exact⟨Io,q'⟩
 free:=u.free
 there:=fun b o e hx=>by
  obtain⟨o',q⟩:=u.there b o e hx
  by_cases hb:b∈fs
  ·obtain⟨sl,q'⟩:=kb b _ q hb
   exact⟨_,q'⟩
  ·exact⟨o',ka b o' q hb (.inr (by rw[e];rfl))⟩
 tups:=u.tups
 frzs:=u.frzs
 tbls:=u.tbls
theorem BC(x:HOk P w H h)(hf:∀b∈fs,H b=none)(ka:∀b o,h.get? b=some o→b∉fs→H b≠none→h'.get? b=some o):HOk P w H h':=fun a o e=>by
 refine(x a o e).stay (fun b u hb q=>ka b u q (fun z=>?_) ?_) (fun _ q=>q) fun _ _ q=>q
 ·have hz:=hf b z
  rcases hb with rfl | hb
  ·rw[hz] at e;cases e
  ·rw[hz] at hb;cases hb
 ·rcases hb with rfl | hb
  ·rw[e];exact fun z=>nomatch z
  ·rw[hb];exact fun z=>nomatch z
end
section
variable{P:Program}{w:World}{K:W.Frag}{mg:Str→Option Value}{base:Heap}{N:List Str}{qual:Str}{scope:Scope}{f:Addr}{cd:Value}{A:Around}{outer:List Env}{s₀:Shared}{H₀:Hp}{E:XK}{cv:Nat→Value}
theorem aL:Passes (jy P w cv) (dj (jy P w cv) P w K mg base N qual scope f cd A outer s₀ H₀ E) (EX cv fun n H'=>E (cv n) none H'):=by
 intro pins σ H s e s' I ⟨ea,n,a0,B,H',he,BD,hg,hok,un,NS,hB,m,hm,hE⟩
 subst he
 have G5:((dj (jy P w cv) P w K mg base N qual scope f cd A outer s₀ H₀ E)).env.locals=s₀.heap.objs.size:=rfl
 have Ee:nr ((dj (jy P w cv) P w K mg base N qual scope f cd A outer s₀ H₀ E)).stack=s₀.heap.objs.size::nr outer:=rfl
 show wpAny (model P w) (A.deeper (envOfC qual scope s₀.heap.objs.size f cd)) (leaving (envOfC qual scope s₀.heap.objs.size f cd) (.ref ea)) _ _ s'
 refine wpAny_leaves_onW (base:=B) (outer:=outer) (L:=s₀.heap.objs.size) I.ok.frames rfl NS fun h' GR ups=>?_
 have F9:∀b∈nr ((dj (jy P w cv) P w K mg base N qual scope f cd A outer s₀ H₀ E)).stack,H' b=none:=fun b hb=>by
  obtain⟨o,ho⟩:∃o,s.heap.get? b=some o:=by
   obtain⟨_,o,ho,_⟩:=I.stack.mem hb
   exact⟨o,ho⟩
  exact un.free b o ho (I.stkFree b hb) (by simp)
 have Gj:∀b o,s'.heap.get? b=some o→b∉nr ((dj (jy P w cv) P w K mg base N qual scope f cd A outer s₀ H₀ E)).stack→(H' b≠none∨(s.heap.get? b).isSome=true)→h'.get? b=some o:=fun b o e hb hc=>GR.1 b o (hB b o e hc hb)
 have unA:Un (nr outer) [] H₀ H' s₀.heap s'.heap:=by
  have u1:Un (nr outer) [] H₀ H s₀.heap s.heap:=I.base
  refine⟨fun b o e nn hb hx=>?_,fun b o e nn hb hx=>?_,fun b o e nn hx=>?_,fun b o e hx=>?_,fun b xs q=>un.tups b xs (u1.tups b xs q),fun b o u q=>un.frzs b o u (u1.frzs b o u q),fun b ps q=>?_⟩
  ·refine un.keep b o (u1.keep b o e nn hb hx) (u1.free b o e nn hx) (fun z=>?_) (by simp)
   rw[Ee] at z
   rcases List.mem_cons.mp z with z | z
   ·exact absurd (Heap.lt_size e) (by rw[z];exact Nat.lt_irrefl _)
   ·exact hb z
  ·obtain⟨sl,q⟩:=u1.slot b o e nn hb hx
   obtain⟨Io,q'⟩:=un.slot b _ q (u1.free b o e nn hx) (by rw[Ee];exact List.mem_cons_of_mem _ hb) (by simp)
   exact⟨Io,q'⟩
  ·obtain⟨o',q⟩:=u1.there b o e hx
   exact un.free b o' q (u1.free b o e nn hx) (by simp)
  ·obtain⟨o',q⟩:=u1.there b o e hx
   exact un.there b o' q (by simp)
  ·obtain⟨m1,q1⟩:=u1.tbls b ps q
   obtain⟨m2,q2⟩:=un.tbls b _ q1
   exact⟨m1++m2,by rw[q2,Array.append_assoc]⟩
 have Ox:∀b,(s₀.heap.get? b).isSome=true→(s.heap.get? b).isSome=true:=fun b hb=>by
  obtain⟨o,ho⟩:=Option.isSome_iff_exists.mp hb
  obtain⟨o',q⟩:=(show Un (nr outer) [] H₀ H s₀.heap s.heap from I.base).there b o ho (by simp)
  rw[q];rfl
 have M9:∀b,(s₀.heap.get? b).isSome=true→b≠s₀.heap.objs.size:=fun b hb z=>by
  obtain⟨o,ho⟩:=Option.isSome_iff_exists.mp hb
  exact absurd (Heap.lt_size ho) (by rw[z];exact Nat.lt_irrefl _)
 have Kg:∀b,b∉nr outer→(H' b≠none∨(s₀.heap.get? b).isSome=true)→b∉nr ((dj (jy P w cv) P w K mg base N qual scope f cd A outer s₀ H₀ E)).stack:=fun b hb hc z=>by
  rcases hc with hc | hc
  ·exact hc (F9 b z)
  ·rw[Ee] at z
   rcases List.mem_cons.mp z with z | z
   ·exact M9 b hc z
   ·exact hb z
 refine⟨ea,n,a0,B,H',rfl,BD.trans I.os,hg,BC hok F9 (fun b o e hb hc=>Gj b o e hb (.inl hc)),FJ unA (fun b o e hb hc=>Gj b o e (Kg b hb hc) (hc.imp id (Ox b))) (fun b o e hb=>?_),GR,fun b o e hc hb=>?_,?_⟩
 ·obtain⟨_,o',qL,hd⟩:=NS.2.2.1.mem (show b∈nr ((dj (jy P w cv) P w K mg base N qual scope f cd A outer s₀ H₀ E)).stack by rw[Ee];exact List.mem_cons_of_mem _ hb)
  rw[e] at qL
  cases qL
  exact ups b o e hd
 ·have D6:=Kg b hb hc
  obtain⟨o',qL⟩:∃o',s'.heap.get? b=some o':=by
   rcases hc with hc | hc
   ·cases q:H' b with
    |none=>exact absurd q hc
    |some u=>
     exact obj_some (hok b u q)
   ·obtain⟨o1,h1⟩:=Option.isSome_iff_exists.mp hc
    exact unA.there b o1 h1 (by simp)
  have:=hB b o' qL (hc.imp id (Ox b)) D6
  rw[GR.1 b o' this] at e
  cases e
  exact this
 ·rw[hm];exact hE
end
section
variable{X:Cx}{Xw:Nat→Hp→Prop}{cv:Nat→Value}{n:Nat}{C:Addr}{x:Str}{np aT pos:Pos}{e:Expr}{es:List Expr}{δs:DA}{bm:List Value}{B newId MY:String}
end
def Gk:D→Option String
 | .non=>some "NoneType"
 | .bl _=>some "bool"
 | .int _=>some "int"
 | .str _=>some "str"
 | .tup _=>some "tuple"
 | .lst _=>some "list"
 |_=>none
def Hk(k T:String):Option Bool:=if T="str"∨T="int"∨T="bool"∨T="tuple"∨T="list" then some (decide (k=T)||(decide (k="bool")&&decide (T="int"))) else none
def ij:List D→M D
 |[d, .raw (.ty T)]=>match Gk d with
  |some k=>match Hk k T with
   |some b=>M.ret (.bl b)
   |none=>M.stuck
  |none=>M.stuck
 |_=>M.stuck
theorem Hv{K:W.Frag}{k T:String}{b:Bool}(hk:k="NoneType"∨k="bool"∨k="int"∨k="str"∨k="tuple"∨k="list")(h:Hk k T=some b):PySem.W.kitOne K (.type k) (.type T)=some b:=by
 unfold Hk at h
 split at h
 ·rename_i hT
  cases h
  rcases hk with rfl | rfl | rfl | rfl | rfl | rfl<;>rcases hT with rfl | rfl | rfl | rfl | rfl<;>with_unfolding_all rfl
 ·cases h
section
variable{X:Cx}{Xw:Nat→Hp→Prop}{a b e e2:Expr}{es:List Expr}{δa δb:DE}{δs:DA}{pos p:Pos}
def KJ(K:W.Frag):List V→Hp→VK→Prop:=fun xs H Q=>∃x T t b,xs=[x, .ty T]∧TyOf K H x t∧PySem.W.kitOne K t (.type T)=some b∧Q (.bl b) H
theorem A0:CallR X (.builtin "isinstance") (KJ X.K):=by
 intro pins s σ H xs us Q I r h
 obtain⟨x,T,t,b,rfl,ty,e,q⟩:=h
 obtain⟨u,w',rfl,r1,r2⟩:=vals2 r
 cases (show w'=_ from r2)
 exact zR I r1 ty e fun tk=>⟨.bl b,H,I.tok tk,rfl,q⟩
theorem Du{K:W.Frag}{F H:Hp}{d:D}{v:V}{k:String}(s:Same F H)(h:Den K F d v)(hk:Gk d=some k):TyOf K H v (.type k)∧(k="NoneType"∨k="bool"∨k="int"∨k="str"∨k="tuple"∨k="list"):=by
 cases d with
 |non=>cases hk;cases (show _=_ from h);exact⟨.non, .inl rfl⟩
 |bl x=>cases hk;cases (show _=_ from h);exact⟨.bl x, .inr (.inl rfl)⟩
 |int x=>cases hk;cases (show _=_ from h);exact⟨.int x, .inr (.inr (.inl rfl))⟩
 |str x=>cases hk;cases (show _=_ from h.1);exact⟨.str x, .inr (.inr (.inr (.inl rfl)))⟩
 |tup x=>cases hk;obtain⟨a,vs,rfl,h2,_⟩:=h;exact⟨.tup (s _ _ h2), .inr (.inr (.inr (.inr (.inl rfl))))⟩
 |lst x=>cases hk;obtain⟨a,vs,rfl,h2,_⟩:=h;exact⟨.lst (s _ _ h2), .inr (.inr (.inr (.inr (.inr rfl))))⟩
 |_=>cases hk
theorem zQ{K:W.Frag}:uw K (KJ K) ij:=fun Xw F H vs ds Q s h w=>by
 unfold ij at w
 split at w
 ·rename_i d T
  obtain⟨v,v',rfl,h1,h2⟩:=h.two
  cases (show _=_ from h2)
  split at w
  ·rename_i k hk
   split at w
   ·rename_i b hb
    obtain⟨ty,Gb⟩:=Du s h1 hk
    exact⟨v,T, .type k,b,rfl,ty,Hv Gb hb,WP.now w s rfl⟩
   ·exact w.elim
  ·exact w.elim
 ·exact w.elim
theorem lM(hg:Gl X "isinstance")(hm:X.mg "isinstance"=none)(hb:bootBuiltins "isinstance"=some (.builtin "isinstance"))(ha:lg X Xw [e,e2] δs)(he:starEach [e,e2] X.env=(false,eval e X.env)::starEach [e2] X.env:=by rfl)
 (pS:(backTo pos (starEach [e2] X.env)).any (·.1)=false:=by rfl):PD X Xw (.Call (.Name "isinstance" p) [e,e2] [] pos) (dA ij δs):=
 d5 A0 zQ hg hm hb ha (by decide) (by decide) he pS
theorem rB{x:Str}{T:String}(hg:Gl X x)(hm:X.mg x=none)(hv:bootBuiltins x=some (.type T))(hn:x≠"__name__":=by decide)(hd:(x==("__debug__":Str))=false:=by decide):PD X Xw (.Name x pos) (dC (.raw (.ty T))):=
 gD (v:= .ty T) (E0 hg hm hv (show RelV (.ty T) (.type T) from rfl) hn hd) fun _=>rfl
def bools:List D→Option (List Bool)
 |[]=>some []
 | .bl b::r=>(bools r).map (b:: ·)
 |_=>none
def allM:List D→M D
 |[.lst ds]=>match bools ds with
  |some bs=>M.ret (.bl (bs.all id))
  |none=>M.stuck
 |_=>M.stuck
theorem qB{K:W.Frag}{F:Hp}:∀{ds:List D}{vs:List V}{bs:List Bool},bools ds=some bs→DenL K F ds vs→vs=bs.map V.bl
 |[],_,_,e,h=>by cases e;exact h
 | .bl b::r,_,_,e,⟨v,r',h1,h2,h3⟩=>by
   unfold bools at e
   cases q:bools r with
   |none=>rw[q] at e;cases e
   |some bs=>rw[q] at e;cases e;subst h1;rw[qB q h3,show v= .bl b from h2];rfl
 | .non::_,_,_,e,_=>by cases e
 | .int _::_,_,_,e,_=>by cases e
 | .str _::_,_,_,e,_=>by cases e
 | .raw _::_,_,_,e,_=>by cases e
 | .exc _::_,_,_,e,_=>by cases e
 | .scr _::_,_,_,e,_=>by cases e
 | .tup _::_,_,_,e,_=>by cases e
 | .lst _::_,_,_,e,_=>by cases e
theorem zi:∀{bs:List Bool}{aB:List Value},Vals (bs.map V.bl) aB→aB=bs.map Value.bool
 |[],_,r=>by cases r;rfl
 |b::bs,_,r=>by
  cases r with
  |cons r1 r2=>cases (show _=_ from r1);rw[zi r2];rfl
def Nf:List V→Hp→VK→Prop:=fun xs H Q=>∃(a:Addr) (bs:List Bool),xs=[.ref a]∧H a=some (.lst (bs.map V.bl))∧Q (.bl (bs.all id)) H
theorem all_range{bs:List Bool}:(List.range bs.length).all (fun i=>bs.getD i false)=bs.all id:=by
 induction bs with
 |nil=>rfl
 |cons b bs ih=>
  rw[List.length_cons,List.range_succ_eq_map,List.all_cons,List.all_map,List.all_cons]
  congr 1
theorem zt(hc:X.calm=true):CallR X (.builtin "all") Nf:=by
 intro pins s σ H xs us Q I r h
 obtain⟨a,bs,rfl,hH,q⟩:=h
 obtain⟨u,rfl,r1⟩:=vals1 r
 cases (show u=_ from r1)
 obtain⟨aB,r2,pl,hz⟩:=I.list (SqL.of (K:=X.K) hH)
 obtain rfl:=zi r2
 have il:a≠s.heap.objs.size:=Nat.ne_of_lt (I.hok.lt hH)
 refine call_all_walk (wpAny_pyIter_list pl.isList ?_)
 refine⟨s.heap.objs.size,_,_,_,_,_,fun i=>bs.getD i false,rfl,Walks.list (A:=X.A.in1) (show X.A.in1.handled=none from I.ok.hd hc) s.heap.objs.size a il (bs.map Value.bool).toArray,⟨⟨_,Heap.get?_push_size _ rfl,rfl,rfl⟩,Heap.IsList.at pl.isList fun o e=>Heap.get?_push_of_some _ e⟩,?_,fun h' tk k=>?_⟩
 ·intro i v s' Q' E' hv hq
  have hv:(bs.map Value.bool).toArray[i]? =some v:=hv
  rw[List.getElem?_toArray,List.getElem?_map] at hv
  cases q':bs[i]? with
  |none=>rw[q'] at hv;cases hv
  |some b=>
   rw[q'] at hv
   cases hv
   have:bs.getD i false=b:=by rw[List.getD_eq_getElem?_getD,q'];rfl
   have hq:Q' (bs.getD i false) s':=hq
   rw[this] at hq
   exact wpAny_truthy_bool hq
 ·have e:(List.range (bs.map Value.bool).toArray.size).all (fun i=>bs.getD i false)=bs.all id:=by
   rw[List.size_toArray,List.length_map];exact all_range
  rw[e]
  refine⟨.bl (bs.all id),H,I.kept (h':=h') (t':=tk) fun b o e'=>k b o (fun z=>?_) (Heap.get?_push_of_some _ e'),rfl,q⟩
  have z:b=s.heap.objs.size:=by simpa using z
  exact absurd (Heap.lt_size e') (by rw[z];exact Nat.lt_irrefl _)
theorem xG(hc:X.calm=true)(hg:Gl X "all")(hm:X.mg "all"=none)(hb:bootBuiltins "all"=some (.builtin "all"))(ha:lg X Xw [e] δs)(he:starEach [e] X.env=[(false,eval e X.env)]:=by rfl):PD X Xw (.Call (.Name "all" p) [e] [] pos) (dA allM δs):=
 d5 (zt hc) (fun Xw F H vs ds Q s h w=>by
  unfold allM at w
  split at w
  ·rename_i ds
   obtain⟨v,rfl,h1⟩:=h.one
   obtain⟨a,ws,rfl,h2,h3,_⟩:=h1
   split at w
   ·rename_i bs hb
    exact⟨a,bs,rfl,by rw[←qB hb h3];exact s _ _ h2,WP.now w s rfl⟩
   ·exact w.elim
  ·exact w.elim) hg hm hb ha (by decide) (by decide) he rfl
end
section
variable{X:Cx}{Xw:Nat→Hp→Prop}{a b e e2:Expr}{es:List Expr}{δ δa δb:DE}{δs:DA}{pos p apos aT:Pos}
theorem FF{i:Nat}:∀F₀ H₀ D σ H,tS X.K Xw F₀ H₀ (jx i δ) D σ H→Dl (Nn X.K "list" y_ (pG i) (Dk (tD X.K Xw δ) Iy)) D σ H:=fun F₀ H₀ D σ H ⟨F,ρ,s,w⟩=>by
 unfold jx at w
 cases ho:Ai ρ i with
 |none=>rw[ho] at w;exact w.elim
 |some ds=>
  rw[ho] at w
  have hi:=rl ho
  obtain⟨v,hv,a,o,rfl,hH,hF,vs,rfl,hd,hl⟩:=s.st.den i _ hi
  have w:WPS X.K Xw F₀ H₀ (δ ρ>>=fun d=>if ds.length<lim then M.ret (.nx (ρ.set i (some (.ow (.lst (ds++[d])))))) else M.stuck) D:=w
  refine⟨.ref a,hv, .inl ⟨rfl,vs,SqL.of hH⟩,F,ρ,s.st,?_⟩
  rcases(δ ρ).cs with q | ⟨n,q⟩ | ⟨d,q⟩
  ·rw[q] at w;exact w.elim
  ·rw[q] at w⊢;exact fun F' H' e'=>w F' H' (s.ext.trans e')
  ·rw[q] at w⊢
   intro u H1 F1 e1 hq
   have w:WPS X.K Xw F₀ H₀ (if ds.length<lim then M.ret (.nx (ρ.set i (some (.ow (.lst (ds++[d])))))) else M.stuck) D:=w
   split at w
   ·rename_i eO
    have hlen:=hd.len
    refine⟨a,vs,u,rfl,rfl,e1.hh _ _ hH,by have:=eX;omega,?_⟩
    exact w σ F1 _ ((s.ext' e1).chg (c₀:= .lst (ds++[d])) hi hv ⟨_,rfl,DenL.append (DenL.mono e1.ff hd) (.cons hq .nil),by rw[List.length_append];exact eO⟩)
   ·exact w.elim
theorem FG{i:Nat}:∀F₀ H₀ D σ H,tS X.K Xw F₀ H₀ (C4 i δ) D σ H→Dl (Nn X.K "list" za (pG i) (Dk (tD X.K Xw δ) Iy)) D σ H:=fun F₀ H₀ D σ H ⟨F,ρ,s,w⟩=>by
 unfold C4 at w
 cases ho:Ai ρ i with
 |none=>rw[ho] at w;exact w.elim
 |some ds=>
  rw[ho] at w
  have hi:=rl ho
  obtain⟨v,hv,a,o,rfl,hH,hF,vs,rfl,hd,hl⟩:=s.st.den i _ hi
  have w:WPS X.K Xw F₀ H₀ (δ ρ>>=fun d=>lstM d>>=fun es=>if ds.length+es.length≤lim then M.ret (.nx (ρ.set i (some (.ow (.lst (ds++es)))))) else M.stuck) D:=w
  refine⟨.ref a,hv, .inl ⟨rfl,vs,SqL.of hH⟩,F,ρ,s.st,?_⟩
  rcases(δ ρ).cs with q | ⟨n,q⟩ | ⟨d,q⟩
  ·rw[q] at w;exact w.elim
  ·rw[q] at w⊢;exact fun F' H' e'=>w F' H' (s.ext.trans e')
  ·rw[q] at w⊢
   intro u H1 F1 e1 hq
   cases d with
   |lst es=>
    obtain⟨b,ws,rfl,k2,k3,k4⟩:=hq
    have w:WPS X.K Xw F₀ H₀ (if ds.length+es.length≤lim then M.ret (.nx (ρ.set i (some (.ow (.lst (ds++es)))))) else M.stuck) D:=w
    split at w
    ·rename_i eO
     have hlen:=hd.len
     have Of:=k3.len
     refine⟨a,b,vs,ws,rfl,rfl,e1.hh _ _ hH,e1.fh _ _ k2,by have:=eX;omega,?_⟩
     exact w σ F1 _ ((s.ext' e1).chg (c₀:= .lst (ds++es)) hi hv ⟨_,rfl,DenL.append (DenL.mono e1.ff hd) k3,by rw[List.length_append];exact eO⟩)
    ·exact w.elim
   |_=>exact w.elim
theorem jr{i:Nat}{x:Str}(hv:PE X (.Name x p) (pG i))(he:PD X Xw e δ)(hs:swapsWith (.Call (.Attribute (.Name x p) "append" apos) [e] [] aT) none pos.line X.env=pure false:=by rfl)
 (fE:attributeBase (.Name x p) "append" X.env (eval (.Name x p) X.env)=eval (.Name x p) X.env:=by rfl)
 (lB:((backTo aT (starEach [e] X.env)).all (fun x=>!x.1)&&(backToKw aT (keywordEach [] X.env)).all (fun x=>x.1.isSome)&&decide ([e].length+([]:List Keyword).length+(if ([]:List Keyword).isEmpty then 0 else 1)<30))=true:=by rfl)
 (fF:(apos.endLine==aT.line)=true:=by rfl)(pT:starEach [e] X.env=[(false,eval e X.env)]:=by rfl):gL X Xw (.Expr (.Call (.Attribute (.Name x p) "append" apos) [e] [] aT) pos) (jx i δ):=fun F₀ H₀=>
 PS.weak (nA (CC PySem.F.plainAttrs_list PySem.F.slot_list_append PySem.F.type_list_append q9 hv (tm he tq pT) fE lB fF pT rfl) hs) fun D σ H w=>FF F₀ H₀ D σ H w
theorem Fc{i:Nat}{x:Str}(hv:PE X (.Name x p) (pG i))(he:PD X Xw e δ)(hs:swapsWith (.Call (.Attribute (.Name x p) "extend" apos) [e] [] aT) none pos.line X.env=pure false:=by rfl)
 (fE:attributeBase (.Name x p) "extend" X.env (eval (.Name x p) X.env)=eval (.Name x p) X.env:=by rfl)
 (lB:((backTo aT (starEach [e] X.env)).all (fun x=>!x.1)&&(backToKw aT (keywordEach [] X.env)).all (fun x=>x.1.isSome)&&decide ([e].length+([]:List Keyword).length+(if ([]:List Keyword).isEmpty then 0 else 1)<30))=true:=by rfl)
 (fF:(apos.endLine==aT.line)=true:=by rfl)(pT:starEach [e] X.env=[(false,eval e X.env)]:=by rfl):gL X Xw (.Expr (.Call (.Attribute (.Name x p) "extend" apos) [e] [] aT) pos) (C4 i δ):=fun F₀ H₀=>
 PS.weak (nA (CC PySem.F.plainAttrs_list PySem.F.slot_list_extend PySem.F.type_list_extend z8 hv (tm he tq pT) fE lB fF pT rfl) hs) fun D σ H w=>FG F₀ H₀ D σ H w
theorem Ce:OpR X (binaryOp .Add) (fun x y H Q=>∃a b ys,x= .ref a∧y= .ref b∧SqT X.K H a []∧SqT X.K H b ys∧Q (.ref b) H):=by
 intro pins s σ H x y v u Q I rx ry h
 obtain⟨a,b,ys,rfl,rfl,ha,hb,q⟩:=h
 cases rx
 cases ry
 obtain⟨aB,r1,p1,_⟩:=I.tuple ha
 obtain⟨fH,r2,p2,_⟩:=I.tuple hb
 cases r1
 obtain⟨⟨cls,dd,data,sl⟩,ho,hc,n,hd⟩:=id p1
 obtain⟨⟨Jd,zD,data2,Gv⟩,DI,DG,n2,hd2⟩:=id p2
 simp only at hc hd DG hd2
 subst hc hd DG hd2
 exact concat_meets ⟨_,ho,rfl⟩ ⟨_,DI,rfl⟩ noFill_tuple_add seq_tuple_add PySem.F.slot_tuple_add PySem.F.entry_tuple_add (PySem.F.args_tuple_add_2 _ _)
  (tuple_addW0 a b _ _ n n2 dd zD sl Gv (by simp)) ⟨ho,DI,⟨.ref b,H,I,rfl,q⟩⟩
def uX:D→D→M D
 | .tup x, .tup y=>if x.length+y.length≤lim then M.ret (.tup (x++y)) else M.stuck
 |_,_=>M.stuck
theorem ES(ha:PD X Xw a δa)(hb:PD X Xw b δb):PD X Xw (.BinOp a .Add b pos) (d2 uX δa δb):=rA (Ce.or EG) (fun Xw F H x y dx dy Q s hx hy w=>by
 unfold uX at w
 split at w
 ·rename_i i j
  obtain⟨a,vs,h1,h2,h3,h4⟩:=hx
  obtain⟨a',vs',k1,k2,k3,k4⟩:=hy
  split at w
  ·rename_i hl
   have e1:=h3.len
   have e2:=k3.len
   have:=eX
   by_cases hv:vs=[]
   ·subst hv
    have:i=[]:=by cases i with | nil=>rfl | cons _ _=>simp at e1
    subst this
    exact .inl ⟨a,a',vs',h1,k1,SqT.of (s _ _ h2),SqT.of (s _ _ k2),WP.now w s ⟨a',vs',k1▸rfl,k2,k3,k4⟩⟩
   ·refine .inr ⟨a,a',vs,vs',h1,k1,SqT.of (s _ _ h2),SqT.of (s _ _ k2),hv,by omega,fun z=>?_,fun z p hp=>?_⟩
    ·subst z
     have:j=[]:=by cases j with | nil=>rfl | cons _ _=>simp at e2
     subst this
     rw[List.append_nil] at w
     exact WP.now w s ⟨a,vs,rfl,h2,h3,h4⟩
    ·exact WP.fin w (Ext.lay s hp) ⟨p,_,rfl,aE,DenL.mono (Ext.lay s hp).ff (h3.append k3),by rw[List.length_append];exact hl⟩
  ·exact w.elim
 ·exact w.elim) ha hb
end
section
variable{X:Cx}{Xw:Nat→Hp→Prop}{a b e e2 o:Expr}{es:List Expr}{δ δa δb δo:DE}{δs:DA}{pos p apos aT:Pos}
def dM(kd:D→Bool)(g:D→List D→M D)(o:DE)(s:DA):DE:=fun ρ=>o ρ>>=fun d=>if kd d then s ρ>>=fun ds=>g d ds else M.stuck
theorem Co{T:String}{name:Str}{id:String}{r:V→List V→Hp→VK→Prop}{kd:D→Bool}{g:D→List D→M D}(pa:PlainAttrs T)(slot:Slot T name id)(MN:typeOf (.builtin id)=pure (.type "method_descriptor"))(hm:IZ X id r)
 (hk:∀(F H:Hp) (x:V) (d:D),kd d=true→Same F H→Den X.K F d x→K7 X.K T x H)
 (hd:∀(Xw:Nat→Hp→Prop) (F H:Hp) (x:V) (vs:List V) (d:D) (ds:List D) (Q:VK),Same F H→Den X.K F d x→DenL X.K F ds vs→WP X.K Xw F H (g d ds) Q→r x vs H Q)
 (ho:PD X Xw o δo)(ha:lg X Xw (e::es) δs)
 (fE:attributeBase o name X.env (eval o X.env)=eval o X.env:=by rfl)
 (lB:((backTo aT (starEach (e::es) X.env)).all (fun x=>!x.1)&&(backToKw aT (keywordEach [] X.env)).all (fun x=>x.1.isSome)
  &&decide ((e::es).length+([]:List Keyword).length+(if ([]:List Keyword).isEmpty then 0 else 1)<30))=true:=by rfl)
 (fF:(apos.endLine==aT.line)=true:=by rfl) (hs:starEach (e::es) X.env=(false,eval e X.env)::starEach es X.env:=by rfl) (w9:(backTo aT (starEach es X.env)).any (·.1)=false:=by rfl):
 PD X Xw (.Call (.Attribute o name apos) (e::es) [] aT) (dM kd g δo δs):=PE.weak (CC pa slot MN hm ho ha fE lB fF hs w9) fun σ H Q ⟨F,ρ,s,w⟩=>by
 refine⟨F,ρ,s,WP.mono (WP.bind w) fun v H1 ⟨F1,d,e1,q1,w1⟩=>?_⟩
 split at w1
 ·rename_i PR
  refine⟨hk F1 H1 v d PR e1.fh q1,F1,ρ,s.ext e1,WPL.mono (WP.bindL w1) fun vs H2 ⟨F2,ds,e2,q2,w2⟩=>?_⟩
  exact hd Xw F2 H2 v vs d ds Q e2.fh (Den.mono e2.ff q1) q2 w2
 ·exact w1.elim
def sG:D→Bool
 | .str _=>true
 |_=>false
def qP:D→Bool
 | .lst _=>true
 |_=>false
theorem BK{K:W.Frag}(F H:Hp)(x:V)(d:D)(h:sG d=true)(s:Same F H)(q:Den K F d x):K7 K "str" x H:=by
 cases d with
 |str z=>cases (show _=_ from q.1);exact rfl
 |_=>cases h
theorem BJ{K:W.Frag}(F H:Hp)(x:V)(d:D)(h:qP d=true)(s:Same F H)(q:Den K F d x):K7 K "list" x H:=by
 cases d with
 |lst z=>obtain⟨a,vs,rfl,h2,_⟩:=q;exact .inl ⟨rfl,vs,SqL.of (s _ _ h2)⟩
 |_=>cases h
def h9:List D→Option (List Str)
 |[]=>some []
 | .str x::r=>(h9 r).map (x:: ·)
 |_=>none
theorem kN{K:W.Frag}{F:Hp}:∀{ds:List D}{vs:List V}{xs:List Str},h9 ds=some xs→DenL K F ds vs→vs=xs.map V.str
 |[],_,_,e,h=>by cases e;exact h
 | .str b::r,_,_,e,⟨v,r',h1,h2,h3⟩=>by
   unfold h9 at e
   cases q:h9 r with
   |none=>rw[q] at e;cases e
   |some bs=>rw[q] at e;cases e;subst h1;rw[kN q h3,show v= .str b from h2.1];rfl
 | .non::_,_,_,e,_=>by cases e
 | .int _::_,_,_,e,_=>by cases e
 | .bl _::_,_,_,e,_=>by cases e
 | .raw _::_,_,_,e,_=>by cases e
 | .exc _::_,_,_,e,_=>by cases e
 | .scr _::_,_,_,e,_=>by cases e
 | .tup _::_,_,_,e,_=>by cases e
 | .lst _::_,_,_,e,_=>by cases e
theorem pK:∀{xs:List Str}{aB:List Value},Vals (xs.map V.str) aB→StrsAre aB xs
 |[],_,r=>by cases r;exact .nil
 |b::bs,_,r=>by
  cases r with
  |cons r1 r2=>obtain⟨t,rfl⟩:=r1;exact .cons b t (pK r2)
def dg:List Str→Str
 |[]=>⟨#[]⟩
 |x::r=>x++dg r
def joinM:D→List D→M D
 | .str sep,[.lst ds]=>match h9 ds with
   |some xs=>if sep.length=0∧(xs.map (·.length)).sum≤lim then M.ret (.str (dg xs)) else M.stuck
   |none=>M.stuck
 | .str sep,[.tup ds]=>match h9 ds with
   |some xs=>if sep.length=0∧(xs.map (·.length)).sum≤lim then M.ret (.str (dg xs)) else M.stuck
   |none=>M.stuck
 |_,_=>M.stuck
theorem nP:∀xs:List Str,(dg xs).length=(xs.map (·.length)).sum
 |[]=>rfl
 |x::r=>by
  show (x++dg r).length=_
  rw[i_,nP r,List.map_cons,List.sum_cons]
theorem FD{x:Str}(h:x.length=0):x=⟨#[]⟩:=by
 obtain⟨⟨l⟩⟩:=x
 have:l.length=0:=h
 cases l with
 |nil=>rfl
 |cons _ _=>simp at this
theorem mN(x:Str):x++(⟨#[]⟩:Str)=x:=by
 obtain⟨c⟩:=x
 show (⟨c++ #[]⟩:Str)=⟨c⟩
 simp
theorem ma(sep:Str)(h:sep.length=0):∀xs:List Str,Txt.join sep xs=dg xs:=by
 have e:=FD h
 subst e
 intro xs
 show Builtin.Str.glued _ xs=_
 rw[StrLaws.glued_eq_join]
 induction xs with
 |nil=>rfl
 |cons x r ih=>
  cases r with
  |nil=>show x=x++(⟨#[]⟩:Str);rw[mN]
  |cons y r=>show x++(⟨#[]⟩:Str)++Str.join _ (y::r)=x++dg (y::r);rw[mN,ih]
def rJoin(K:W.Frag):V→List V→Hp→VK→Prop:=fun x vs H Q=>∃(sep:Str) (a:Addr) (xs:List Str),x= .str sep∧vs=[.ref a]∧(H a=some (.lst (xs.map V.str))∨H a=some (.tup (xs.map V.str)))∧sep.length=0∧(xs.map (·.length)).sum≤lim∧Q (.str (dg xs)) H
theorem EC:IZ X "str.join" (rJoin X.K):=by
 intro pins s σ H x vs v us Q I rx rv h
 obtain⟨sep,a,xs,rfl,rfl,hH,hs,hl,q⟩:=h
 obtain⟨t,rfl⟩:=rx
 obtain⟨u,rfl,r1⟩:=rv.one
 cases (show u=_ from r1)
 have hok:(xs.map (·.length)).sum+xs.length*sep.length≤16777216:=by
  rw[hs,Nat.mul_zero]
  unfold lim at hl
  omega
 rcases hH with hH | hH
 ·obtain⟨aB,r2,pl,hz⟩:=I.list (SqL.of (K:=X.K) hH)
  refine join_list pl.isList (by simpa using pK r2) hok fun t' k=>⟨.str (dg xs),H,I.tok k,⟨t',by rw[ma sep hs]⟩,q⟩
 ·obtain⟨aB,r2,pl,hz⟩:=I.tuple (SqT.of (K:=X.K) hH)
  refine join_tuple pl (by simpa using pK r2) hok fun t' k=>⟨.str (dg xs),H,I.tok k,⟨t',by rw[ma sep hs]⟩,q⟩
theorem tF(ho:PD X Xw o δo)(ha:lg X Xw [e] δs)(fE:attributeBase o "join" X.env (eval o X.env)=eval o X.env:=by rfl)
 (lB:((backTo aT (starEach [e] X.env)).all (fun x=>!x.1)&&(backToKw aT (keywordEach [] X.env)).all (fun x=>x.1.isSome)&&decide ([e].length+([]:List Keyword).length+(if ([]:List Keyword).isEmpty then 0 else 1)<30))=true:=by rfl)
 (fF:(apos.endLine==aT.line)=true:=by rfl)(pT:starEach [e] X.env=[(false,eval e X.env)]:=by rfl):PD X Xw (.Call (.Attribute o "join" apos) [e] [] aT) (dM sG joinM δo δs):=
 Co PySem.F.plainAttrs_str PySem.F.slot_str_join PySem.F.type_str_join EC BK (fun Xw F H x vs d ds Q s hx hv w=>by
  unfold joinM at w
  split at w
  ·rename_i sep ds
   obtain⟨v,rfl,h1⟩:=hv.one
   obtain⟨a,ws,rfl,h2,h3,_⟩:=h1
   split at w
   ·rename_i xs Hd
    split at w
    ·rename_i hc
     exact⟨sep,a,xs,hx.1,rfl, .inl (by rw[←kN Hd h3];exact s _ _ h2),hc.1,hc.2,WP.now w s ⟨rfl,by rw[nP];exact hc.2⟩⟩
    ·exact w.elim
   ·exact w.elim
  ·rename_i sep ds
   obtain⟨v,rfl,h1⟩:=hv.one
   obtain⟨a,ws,rfl,h2,h3,_⟩:=h1
   split at w
   ·rename_i xs Hd
    split at w
    ·rename_i hc
     exact⟨sep,a,xs,hx.1,rfl, .inr (by rw[←kN Hd h3];exact s _ _ h2),hc.1,hc.2,WP.now w s ⟨rfl,by rw[nP];exact hc.2⟩⟩
    ·exact w.elim
   ·exact w.elim
  ·exact w.elim) ho ha fE lB fF pT rfl
def Ds:List D→M D
 |[.lst ds]=>M.ret (.tup ds)
 |[.tup ds]=>M.ret (.tup ds)
 |_=>M.stuck
theorem Cv(hg:Gl X "tuple")(hm:X.mg "tuple"=none)(hb:bootBuiltins "tuple"=some (.type "tuple"))(ha:lg X Xw [e] δs)(he:starEach [e] X.env=[(false,eval e X.env)]:=by rfl):PD X Xw (.Call (.Name "tuple" p) [e] [] pos) (dA Ds δs):=
 Ak pX (fun Xw F H vs ds Q s h w=>by
  unfold Ds at w
  split at w
  ·rename_i ds
   obtain⟨v,rfl,h1⟩:=h.one
   obtain⟨a,ws,rfl,h2,h3,h4⟩:=h1
   exact⟨a,ws,rfl, .inl ⟨SqL.of (s _ _ h2),fun l hl=>WP.fin w (Ext.lay s hl) ⟨l,ws,rfl,aE,DenL.mono (Ext.lay s hl).ff h3,h4⟩⟩⟩
  ·rename_i ds
   obtain⟨v,rfl,h1⟩:=h.one
   obtain⟨a,ws,rfl,h2,h3,h4⟩:=h1
   exact⟨a,ws,rfl, .inr ⟨SqT.of (s _ _ h2),WP.now w s ⟨a,ws,rfl,h2,h3,h4⟩⟩⟩
  ·exact w.elim) hg hm hb ha (by decide) (by decide) he rfl
theorem xI(hc:X.calm=true)(hg:Gl X "max")(hm:X.mg "max"=none)(hb:bootBuiltins "max"=some (.builtin "max"))(ha:lg X Xw [e,e2] δs)(he:starEach [e,e2] X.env=(false,eval e X.env)::starEach [e2] X.env:=by rfl)
 (pS:(backTo pos (starEach [e2] X.env)).any (·.1)=false:=by rfl):PD X Xw (.Call (.Name "max" p) [e,e2] [] pos) (dA xj δs):=
 d5 (zu hc) (fun Xw F H vs ds Q s h w=>by
  unfold xj at w
  split at w
  ·obtain⟨v,v',rfl,h1,h2⟩:=h.two
   cases (show _=_ from h1)
   cases (show _=_ from h2)
   exact⟨_,_,rfl,WP.now w s rfl⟩
  ·exact w.elim) hg hm hb ha (by decide) (by decide) he pS
theorem Ct(hc:X.calm=true)(hg:Gl X "min")(hm:X.mg "min"=none)(hb:bootBuiltins "min"=some (.builtin "min"))(ha:lg X Xw [e,e2] δs)(he:starEach [e,e2] X.env=(false,eval e X.env)::starEach [e2] X.env:=by rfl)
 (pS:(backTo pos (starEach [e2] X.env)).any (·.1)=false:=by rfl):PD X Xw (.Call (.Name "min" p) [e,e2] [] pos) (dA z6 δs):=
 d5 (zv hc) (fun Xw F H vs ds Q s h w=>by
  unfold z6 at w
  split at w
  ·obtain⟨v,v',rfl,h1,h2⟩:=h.two
   cases (show _=_ from h1)
   cases (show _=_ from h2)
   exact⟨_,_,rfl,WP.now w s rfl⟩
  ·exact w.elim) hg hm hb ha (by decide) (by decide) he pS
def nums:List D→Option (List Int)
 |[]=>some []
 | .int x::r=>(nums r).map (x:: ·)
 |_=>none
theorem iB{K:W.Frag}{F:Hp}:∀{ds:List D}{vs:List V}{xs:List Int},nums ds=some xs→DenL K F ds vs→vs=xs.map V.int
 |[],_,_,e,h=>by cases e;exact h
 | .int b::r,_,_,e,⟨v,r',h1,h2,h3⟩=>by
   unfold nums at e
   cases q:nums r with
   |none=>rw[q] at e;cases e
   |some bs=>rw[q] at e;cases e;subst h1;rw[iB q h3,show v= .int b from h2];rfl
 | .non::_,_,_,e,_=>by cases e
 | .str _::_,_,_,e,_=>by cases e
 | .bl _::_,_,_,e,_=>by cases e
 | .raw _::_,_,_,e,_=>by cases e
 | .exc _::_,_,_,e,_=>by cases e
 | .scr _::_,_,_,e,_=>by cases e
 | .tup _::_,_,_,e,_=>by cases e
 | .lst _::_,_,_,e,_=>by cases e
def uY(neg:Bool):D→D→M D
 | .int i, .tup ds=>match nums ds with | some ns=>M.ret (.bl (if neg then !ns.contains i else ns.contains i)) | none=>M.stuck
 |_,_=>M.stuck
theorem BG(i:Int)(ns:List Int):LH (.int i) (ns.map V.int)=ns.contains i:=by
 unfold LH
 rw[List.any_map]
 induction ns with
 |nil=>rfl
 |cons n ns ih=>
  rw[List.any_cons,List.contains_cons,ih]
  congr 1
  show DC (.int n) (.int i)=(i==n)
  unfold DC
  exact Bool.beq_comm
theorem BF{neg:Bool}{K:W.Frag}:ux K (Ng K neg) (uY neg):=fun Xw F H x y dx dy Q s hx hy w=>by
 unfold uY at w
 split at w
 ·rename_i i ds
  obtain⟨a,vs,h1,h2,h3,h4⟩:=hy
  split at w
  ·rename_i ns hn
   have hv:=iB hn h3
   subst hv
   cases (show _=_ from hx)
   refine⟨a,ns.map V.int,h1, .inr (SqT.of (s _ _ h2)),rfl,?_,?_⟩
   ·rw[List.all_map]
    exact List.all_eq_true.mpr fun _ _=>rfl
   ·rw[BG]
    exact WP.now w s rfl
  ·exact w.elim
 ·exact w.elim
theorem Ar(ha:PD X Xw a δa)(hb:PD X Xw b δb)(hm:behindInMarks .NotIn b=false:=by rfl):k9 X Xw (.Compare a [.NotIn] [b] pos) (bS (d2 (uY true) δa δb)):=dH tj BF ha hb hm
def p5(neg:Bool):D→D→M D
 | .str x, .str y=>M.ret (.bl (if neg then !(!(Builtin.Str.occurrences y x 0 y.length 1).isEmpty) else !(Builtin.Str.occurrences y x 0 y.length 1).isEmpty))
 |_,_=>M.stuck
theorem HI(ha:PD X Xw a δa)(hb:PD X Xw b δb)(hm:behindInMarks .In b=false:=by rfl):PD X Xw (.Compare a [.In] [b] pos) (d2 (p5 false) δa δb):=Cr ri (fun Xw F H x y dx dy Q s hx hy w=>by
 unfold p5 at w
 split at w
 ·exact⟨_,_,hx.1,hy.1,WP.now w s rfl⟩
 ·exact w.elim) ha hb hm
theorem Ia(ha:PD X Xw a δa)(hb:PD X Xw b δb)(hm:behindInMarks .In b=false:=by rfl):k9 X Xw (.Compare a [.In] [b] pos) (bS (d2 (p5 false) δa δb)):=dH ri (fun Xw F H x y dx dy Q s hx hy w=>by
 unfold p5 at w
 split at w
 ·exact⟨_,_,hx.1,hy.1,WP.now w s rfl⟩
 ·exact w.elim) ha hb hm
end
end L3
namespace L3
open PySem PySem.Spec L2 SeqAt HT
open PyProof.Rows hiding St
section
variable{prog:Program}{w:World}{A:Around}{E:Value→Shared→Prop}{s:Shared}
theorem jv{t sl:Addr}{items:Array Value}{vl vu:Value}{lo hi:Option Int}{Q:Value→Shared→Prop}(ht:IsTup s.heap t items)(hs:s.heap.IsSliceOf sl vl vu .none)(pl:IsPart vl lo)(pu:IsPart vu hi)
 (hw:sIx items.size 0 lo=0∧sIx items.size items.size hi=items.size)(h:Q (.ref t) s):wpAny (model prog w) A (getItem (.ref t) (.ref sl)) Q E s:=by
 obtain⟨os,BD,Lp,F8⟩:=id hs
 have Mb:s.TypeIs (.ref sl) "slice":=⟨os,BD,Lp⟩
 unfold getItem
 try with_reducible refine wpAny_holding ?_
 first | refine wpAny_bind (wpAny_pure ?_) | skip
 refine wpAny_bind (wpAny_sequenceKey ht.typeIs (by decide) ?_)
 refine wpAny_bind (wpAny_callSpecial?_slot (name:=Str.ofString "__getitem__") ht.typeIs PyProof.Rows.slot_tuple_getitem
  (wpAny_call_entry PyProof.Rows.slot_tuple_getitem ht.typeIs entry_tuple_getitem ?_ (args_tuple_getitem _ _)))
 show wpAny _ _ (Builtin.Tuple.tupleItemsOf (.ref t)>>=_) _ _ s
 refine wpAny_bind (tupleItemsOf_ ht ?_)
 refine wpAny_bind (wpAny_typeOf Mb ?_)
 rw[if_pos (by decide)]
 refine wpAny_bind (sliceApplied_gen hs pl pu ?_)
 have w6:((((sIx items.size 0 lo:Nat):Int)==0&&(1:Int)==1&&(sIx items.size items.size hi - sIx items.size 0 lo)==items.size)=true):=by
  rw[hw.1,hw.2]
  simp
 show wpAny _ _ (if (((sIx items.size 0 lo:Nat):Int)==0&&(1:Int)==1&&(sIx items.size items.size hi - sIx items.size 0 lo)==items.size)=true then _ else _) _ _ s
 rw[if_pos w6]
 refine wpAny_bind ?_
 unfold Builtin.Tuple.tupleIsExact
 refine wpAny_bind (wpAny_typeOf ht.typeIs (wpAny_pure ?_))
 rw[if_pos (by decide)]
 exact wpAny_bind (wpAny_rule (wpAny_pure ⟨_,rfl,wpAny_pure h⟩))
end
section
variable{X:Cx}{Xw:Nat→Hp→Prop}{a b e:Expr}{lo hi:Option Expr}{δ δa δb:DE}{pos p p2:Pos}
theorem FA:SlR X (fun x lo hi H Q=>∃a xs,x= .ref a∧SqT X.K H a xs∧(sIx xs.length 0 lo=0∧sIx xs.length xs.length hi=xs.length)∧Q (.ref a) H):=by
 intro pins s σ H x v vl vu lo hi sl Q I rx hs pl pu h
 obtain⟨a,xs,rfl,hx,hw,q⟩:=h
 cases rx
 obtain⟨aB,r,ht,hz⟩:=I.tuple hx
 have hlen:aB.toArray.size=xs.length:=by rw[List.size_toArray];exact r.length.symm
 exact⟨"tuple",_,PyProof.Rows.slot_tuple_getitem.lookup,ht.typeIs,jv ht hs pl pu (by rw[hlen];exact hw) ⟨.ref a,H,I,rfl,q⟩⟩
theorem Ip:SlR X (fun x lo hi H Q=>∃z:Str,x= .str z∧z.length≤lim∧Q (.str (Txt.slice z lo hi)) H):=by
 intro pins s σ H x v vl vu lo hi sl Q I rx hs pl pu h
 obtain⟨z,rfl,hl,q⟩:=h
 obtain⟨t,rfl⟩:=rx
 have hz:z.length≤sizeLine:=by have:=eX;omega
 cases pl with
 |none=>
  cases pu with
  |none=>exact⟨"str",_,PySem.F.slot_str_getitem.lookup,typeIs_str _ _ _,wpAny_getItem_str_slice (l:=none) (u:=none) (st:=none) hs rfl (post_val_or_str ⟨Nat.le_trans (Txt.slice_le z _ _) hz,fun t' k=>⟨.str _,H,I.tok k,⟨t',rfl⟩,q⟩⟩)⟩
  |int j uj=>exact⟨"str",_,PySem.F.slot_str_getitem.lookup,typeIs_str _ _ _,wpAny_getItem_str_slice (l:=none) (u:=some (j,uj)) (st:=none) hs rfl (post_val_or_str ⟨Nat.le_trans (Txt.slice_le z _ _) hz,fun t' k=>⟨.str _,H,I.tok k,⟨t',rfl⟩,q⟩⟩)⟩
 |int i ui=>
  cases pu with
  |none=>exact⟨"str",_,PySem.F.slot_str_getitem.lookup,typeIs_str _ _ _,wpAny_getItem_str_slice (l:=some (i,ui)) (u:=none) (st:=none) hs rfl (post_val_or_str ⟨Nat.le_trans (Txt.slice_le z _ _) hz,fun t' k=>⟨.str _,H,I.tok k,⟨t',rfl⟩,q⟩⟩)⟩
  |int j uj=>exact⟨"str",_,PySem.F.slot_str_getitem.lookup,typeIs_str _ _ _,wpAny_getItem_str_slice (l:=some (i,ui)) (u:=some (j,uj)) (st:=none) hs rfl (post_val_or_str ⟨Nat.le_trans (Txt.slice_le z _ _) hz,fun t' k=>⟨.str _,H,I.tok k,⟨t',rfl⟩,q⟩⟩)⟩
abbrev DO:=a5→M (Option Int)
def WPO(Xw:Nat→Hp→Prop)(F H:Hp)(m:M (Option Int))(Q:Option Int→Hp→Prop):Prop:=
 match m with
 |none=>False
 |some (.ok b)=>∀H' F',Ext F H F' H'→Q b H'
 |some (.ex n)=>∀F' H',Ext F H F' H'→Xw n H'
def QS(K:W.Frag)(Xw:Nat→Hp→Prop)(δ:DO):TO:=fun σ H Q=>∃F ρ,StE K F H σ ρ∧WPO Xw F H (δ ρ) Q
def Lc(X:Cx)(Xw:Nat→Hp→Prop)(e:Option Expr)(δ:DO):Prop:=PO X e (QS X.K Xw δ)
def oN:DO:=fun _=>M.ret none
def oS(δ:DE):DO:=fun ρ=>δ ρ>>=fun d=>match d with | .int i=>M.ret (some i) | _=>M.stuck
theorem Cz:Lc X Xw none oN:=fun pins s σ H Q I ⟨F,ρ,S,w⟩=>E8 pins s σ H Q I (w H F (Ext.refl S.fh))
theorem CA(h:PD X Xw e δ):Lc X Xw (some e) (oS δ):=fun pins s σ H Q I ⟨F,ρ,S,w⟩=>E9 h pins s σ H Q I ⟨F,ρ,S,by
 have w:WPO Xw F H (δ ρ>>=fun d=>match d with | .int i=>M.ret (some i) | _=>M.stuck) Q:=w
 rcases(δ ρ).cs with q | ⟨n,q⟩ | ⟨d,q⟩
 ·rw[q] at w;exact w.elim
 ·rw[q] at w⊢;exact w
 ·rw[q] at w⊢
  intro v H' F' e' hd
  cases d with
  |int i=>exact⟨i,hd,w H' F' e'⟩
  |_=>exact w.elim⟩
theorem WP.bindO{K:W.Frag}{Xw:Nat→Hp→Prop}{F H:Hp}{Q:VK}{m:M (Option Int)}{k:Option Int→M D}(h:WP K Xw F H (m>>=k) Q):WPO Xw F H m fun b H1=>∃F1,Ext F H F1 H1∧WP K Xw F1 H1 (k b) Q:=by
 match m,h with
 |none,h=>exact h
 |some (.ok d),h=>exact fun H2 F2 e2=>⟨F2,e2,WP.ext e2 (show WP K Xw F H (k d) Q from h)⟩
 |some (.ex n),h=>exact h
theorem WPO.mono{Xw:Nat→Hp→Prop}{F H:Hp}{m:M (Option Int)}{Q Q':Option Int→Hp→Prop}(h:WPO Xw F H m Q)(k:∀v H',Q v H'→Q' v H'):WPO Xw F H m Q':=by
 match m,h with
 |none,h=>exact h
 |some (.ok d),h=>exact fun H2 F2 e2=>k _ _ (h H2 F2 e2)
 |some (.ex n),h=>exact h
def cutD(ds:List D)(lo hi:Option Int):List D:=(ds.drop (sIx ds.length 0 lo)).take (sIx ds.length ds.length hi - sIx ds.length 0 lo)
def QO:D→Option Int→Option Int→M D
 | .tup ds,lo,hi=>M.ret (.tup (cutD ds lo hi))
 | .lst ds,lo,hi=>M.ret (.lst (cutD ds lo hi))
 | .str x,lo,hi=>M.ret (.str (Txt.slice x lo hi))
 |_,_,_=>M.stuck
def Lf(a:DE)(lo hi:DO):DE:=fun ρ=>a ρ>>=fun d=>lo ρ>>=fun l=>hi ρ>>=fun h=>QO d l h
theorem uJ(ds:List D)(lo hi:Option Int):(cutD ds lo hi).length≤ds.length:=by
 unfold cutD
 rw[List.length_take,List.length_drop]
 omega
theorem DenL.cut{K:W.Frag}{F:Hp}{ds:List D}{vs:List V}(h:DenL K F ds vs)(lo hi:Option Int):DenL K F (cutD ds lo hi) (uK vs lo hi):=by
 unfold cutD uK
 rw[h.len]
 exact(h.drop _).take _
theorem Kr{δo:DE}{κl κh:DO}(he:PD X Xw e δo)(hl:Lc X Xw lo κl)(hh:Lc X Xw hi κh):PD X Xw (.Subscript e (.Slice lo hi none p2) pos) (Lf δo κl κh):=
 PE.weak (CL (FA.or (Iq.or (Fz.or Ip))) he hl hh) fun σ H Q ⟨F,ρ,s,w⟩=>by
  refine⟨F,ρ,s,WP.mono (WP.bind w) fun v H1 ⟨F1,d,e1,q1,w1⟩=>?_⟩
  refine⟨F1,ρ,s.ext e1,WPO.mono (WP.bindO w1) fun l H2 ⟨F2,e2,w2⟩=>?_⟩
  refine⟨F2,ρ,(s.ext e1).ext e2,WPO.mono (WP.bindO w2) fun h H3 ⟨F3,e3,w3⟩=>?_⟩
  have q3:=Den.mono (e2.ff.trans e3.ff) q1
  have fh:=e3.fh
  cases d with
  |tup ds=>
   obtain⟨a,vs,rfl,h2,h3,h4⟩:=q3
   by_cases hw:sIx vs.length 0 l=0∧sIx vs.length vs.length h=vs.length
   ·refine .inl ⟨a,vs,rfl,SqT.of (fh _ _ h2),hw,?_⟩
    have hc:cutD ds l h=ds:=by
     unfold cutD
     rw[h3.len,hw.1,hw.2,Nat.sub_zero,List.drop_zero,←h3.len,List.take_length]
    have w3:WP X.K Xw F3 H3 (M.ret (.tup (cutD ds l h))) Q:=w3
    rw[hc] at w3
    exact WP.now w3 fh ⟨a,vs,rfl,h2,h3,h4⟩
   ·exact .inr (.inl ⟨a,vs,rfl,SqT.of (fh _ _ h2),hw,fun p hp=>WP.fin w3 (Ext.lay fh hp) ⟨p,_,rfl,aE,DenL.mono (Ext.lay fh hp).ff (h3.cut l h),Nat.le_trans (uJ _ _ _) h4⟩⟩)
  |lst ds=>
   obtain⟨a,vs,rfl,h2,h3,h4⟩:=q3
   exact .inr (.inr (.inl ⟨a,vs,rfl,SqL.of (fh _ _ h2),fun p hp=>WP.fin w3 (Ext.lay fh hp) ⟨p,_,rfl,aE,DenL.mono (Ext.lay fh hp).ff (h3.cut l h),Nat.le_trans (uJ _ _ _) h4⟩⟩))
  |str x=>exact .inr (.inr (.inr ⟨x,q3.1,q3.2,WP.now w3 fh ⟨rfl,Nat.le_trans (Txt.slice_le x _ _) q3.2⟩⟩))
  |_=>exact w3.elim
end
section
variable{prog:Program}{w:World}{A:Around}{E:Value→Shared→Prop}{s:Shared}
end
section
variable{X:Cx}{Xw:Nat→Hp→Prop}{a b e:Expr}{δ δa δb:DE}{pos p p2:Pos}
end
def K_(x:Str):It:=⟨fun i _=>i<x.cps.size,fun i H v H'=>H'=H∧∃c,x.cps[i]? =some c∧v= .str ⟨#[c]⟩,fun i _=>x.cps.size≤i⟩
theorem AG{P:Program}{w:World}{K:W.Frag}{tg:Expr}(it:Addr)(x:Str)(t:Tok):Turn P w K tg (K_ x) [it] it (fun i h=>i≤x.cps.size∧h.IsStrIter it "str_ascii_iterator" x t i) where
 mem:=by simp
 obj:=fun i h st b hb=>by
  have e:b=it:=by simpa using hb
  subst e
  obtain⟨_,o,e,c,d⟩:=st
  exact⟨o,e,fun v z=>by rw[d] at z;cases z⟩
 keep:=fun i h h' st k=>⟨st.1,let ⟨o,e,r⟩:=st.2;⟨o,k it (by simp) o e,r⟩⟩
 item:=by
  intro X hP hw hK hc i pins s σ H E I hf st hg
  subst hP hw hK
  obtain⟨f0,f1,f2,f3,f4,f5⟩:=hf it (by simp)
  have hi:i<x.cps.size:=hg
  refine(Walks.strAscii (prog:=X.prog) (w:=X.w) (I.ok.hd hc) it x t).item i s _ _ hi st.2 fun v h' tk hv pD kk=>?_
  obtain⟨c,u,Me,rfl⟩:=hv
  have I1:Inv X pins σ H {s with heap:=h',toks:=tk}:=I.turned (fun b o hb e=>kk b o (by simpa using hb) e) f0 f1 f3 f4 f5
  obtain⟨o,e,cc,dd⟩:=id pD
  exact⟨_,rfl,qK (s:={s with heap:=h',toks:=tk}) e cc dd (by decide) ⟨.str ⟨#[c]⟩,H,I1,⟨u,rfl⟩,⟨rfl,c,Me,rfl⟩,⟨hi,pD⟩,fun b hb=>(hf b hb).1⟩⟩
 done:=by
  intro X hP hw hK hc i pins s σ H E I hf st hg
  subst hP hw hK
  obtain⟨f0,f1,f2,f3,f4,f5⟩:=hf it (by simp)
  have hi:i=x.cps.size:=Nat.le_antisymm st.1 hg
  subst hi
  exact(Walks.strAscii (prog:=X.prog) (w:=X.w) (I.ok.hd hc) it x t).done s _ _ st.2 fun h' tk kk=>⟨rfl,I.turned (fun b o hb e=>kk b o (by simpa using hb) e) f0 f1 f3 f4 f5⟩
 self:=fun _ _ _ _ _ st h=>wpAny_pyIter_striter_ascii st.2 h
theorem AH{P:Program}{w:World}{K:W.Frag}{tg:Expr}(it:Addr)(x:Str)(t:Tok):Turn P w K tg (K_ x) [it] it (fun i h=>i≤x.cps.size∧h.IsStrIter it "str_iterator" x t i) where
 mem:=by simp
 obj:=fun i h st b hb=>by
  have e:b=it:=by simpa using hb
  subst e
  obtain⟨_,o,e,c,d⟩:=st
  exact⟨o,e,fun v z=>by rw[d] at z;cases z⟩
 keep:=fun i h h' st k=>⟨st.1,let ⟨o,e,r⟩:=st.2;⟨o,k it (by simp) o e,r⟩⟩
 item:=by
  intro X hP hw hK hc i pins s σ H E I hf st hg
  subst hP hw hK
  obtain⟨f0,f1,f2,f3,f4,f5⟩:=hf it (by simp)
  have hi:i<x.cps.size:=hg
  refine(Walks.strWide (prog:=X.prog) (w:=X.w) (I.ok.hd hc) it x t).item i s _ _ hi st.2 fun v h' tk hv pD kk=>?_
  obtain⟨c,u,Me,rfl⟩:=hv
  have I1:Inv X pins σ H {s with heap:=h',toks:=tk}:=I.turned (fun b o hb e=>kk b o (by simpa using hb) e) f0 f1 f3 f4 f5
  obtain⟨o,e,cc,dd⟩:=id pD
  exact⟨_,rfl,qK (s:={s with heap:=h',toks:=tk}) e cc dd (by decide) ⟨.str ⟨#[c]⟩,H,I1,⟨u,rfl⟩,⟨rfl,c,Me,rfl⟩,⟨hi,pD⟩,fun b hb=>(hf b hb).1⟩⟩
 done:=by
  intro X hP hw hK hc i pins s σ H E I hf st hg
  subst hP hw hK
  obtain⟨f0,f1,f2,f3,f4,f5⟩:=hf it (by simp)
  have hi:i=x.cps.size:=Nat.le_antisymm st.1 hg
  subst hi
  exact(Walks.strWide (prog:=X.prog) (w:=X.w) (I.ok.hd hc) it x t).done s _ _ st.2 fun h' tk kk=>⟨rfl,I.turned (fun b o hb e=>kk b o (by simpa using hb) e) f0 f1 f3 f4 f5⟩
 self:=fun _ _ _ _ _ st h=>wpAny_pyIter_striter_wide st.2 h
section
variable{X:Cx}{Xw:Nat→Hp→Prop}{tg a b e l o:Expr}{δ δa δb δo:DE}{δs:DA}{pos p p2 apos aT:Pos}
def MW(tl:TE):TI:=fun σ H R=>tl σ H fun x H1=>∃z,x= .str z∧R (K_ z) H1
theorem HY{tl:TE}(hl:PE X l tl):PI X tg l (MW tl):=by
 intro pins s σ H R I h
 refine bN (hl pins s σ H _ I h) fun v s1 ⟨x,H1,I1,r1,q1⟩=>?_
 obtain⟨z,e,q⟩:=q1
 subst e
 obtain⟨t,rfl⟩:=r1
 have fp:∀b∈[s1.heap.objs.size],pU X pins H1 b:=fun b hb=>by
  have e:b=s1.heap.objs.size:=by simpa using hb
  subst e
  exact I1.fpOk (Nat.le_refl _) (I1.hok.fresh (Nat.le_refl _))
 cases ha:z.cps.all (· <128)
 ·exact wpAny_pyIter_wide ha ⟨s1.heap.objs.size,[s1.heap.objs.size],_,_,H1,rfl,I1.kept (t':=s1.toks) fun b o e=>Heap.get?_push_of_some _ e,AH _ z t,⟨Nat.zero_le _,_,Heap.get?_push_size _ rfl,rfl,rfl⟩,fp,q⟩
 ·exact wpAny_pyIter_ascii ha ⟨s1.heap.objs.size,[s1.heap.objs.size],_,_,H1,rfl,I1.kept (t':=s1.toks) fun b o e=>Heap.get?_push_of_some _ e,AG _ z t,⟨Nat.zero_le _,_,Heap.get?_push_size _ rfl,rfl,rfl⟩,fp,q⟩
def signs(x:Str):List D:=x.cps.toList.map fun c=>D.str ⟨#[c]⟩
def Fx:D→M (List D)
 | .str x=>M.ret (signs x)
 |_=>M.stuck
theorem Ei{K:W.Frag}{F:Hp}(x:Str):ItD K F (K_ x) (signs x):=fun F' H' i s1 s2=>by
 refine⟨fun d e=>?_,fun hl=>show x.cps.size≤i by simpa[signs] using hl⟩
 unfold signs at e
 rw[List.getElem?_map] at e
 cases q:x.cps.toList[i]? with
 |none=>rw[q] at e;cases e
 |some c=>
  rw[q] at e
  cases e
  have hi:i<x.cps.size:=by
   have:=(List.getElem?_eq_some_iff.mp q).1
   simpa using this
  refine⟨hi,fun v H'' y=>?_⟩
  obtain⟨e2,c',F0,rfl⟩:=y
  subst e2
  have:c'=c:=by
   have q':x.cps[i]? =some c:=by simpa using q
   rw[q'] at F0
   exact(Option.some.inj F0).symm
  subst this
  exact⟨F',Ext.refl s2,rfl,by show 1≤lim;decide⟩
theorem yY(h:PD X Xw l δ):wA X Xw tg l (fun ρ=>δ ρ>>=Fx):=PI.weak (HY h) fun σ H R ⟨F,ρ,s,w⟩=>by
 refine⟨F,ρ,s,WP.mono (WPI.bind w) fun v H1 ⟨F1,d,e1,q1,w1⟩=>?_⟩
 cases d with
 |str z=>exact⟨z,q1.1,w1 _ _ _ (Ext.refl e1.fh) (Ei z)⟩
 |_=>exact w1.elim
end
end L3
namespace L3
open PySem PySem.Spec L2 SeqAt HT
open PyProof.Rows hiding St
open PySem.W (Frag Looks InstAt findIn mroIn)
open PySem.Builtin PySem.Builtin.ObjectAttr PySem.Builtin.Getset_descriptor
section
variable{prog:Program}{w:World}{A:Around}{E:Value→Shared→Prop}{h:Heap}{g:Array GenState}{d:Drawn}{t:Nat}{os:OsState}{x D:Addr}{ox:Obj}{K:Frag}
structure ExcC (K:Frag) (D:Addr):Prop where
 ga:findIn K (.ref D) "__getattribute__"=some (some (.builtin "BaseException.__getattribute__"))
 gt:findIn K (.ref D) "__getattr__"=some none
 ca:findIn K (.ref D) "__class__"=some (some (.builtin "object.__class__"))
 mo:mroIn K D (.type "object")=some true
 mb:mroIn K D (.type "BaseException")=some true
 cl:(PySem.W.clsIn K D).isSome=true
end
section
variable{X:Cx}{Xw:Nat→Hp→Prop}{e e2:Expr}{δs:DA}{pos p:Pos}
end
end L3
namespace L3
open PySem PySem.Spec L2 SeqAt HT
open PyProof.Rows hiding St
open PySem.W (Frag Looks findIn mroIn)
section
variable{X:Cx}{pins pn:List (Addr×Obj)}{σ:St}{H:Hp}{s:Shared}{E:Value→Shared→Prop}{ea:Addr}
end
section
variable{P:Program}{w:World}{K:W.Frag}{mg:Str→Option Value}{base:Heap}{N:List Str}{qual:Str}{scope:Scope}{f:Addr}{cd:Value}{A:Around}{outer:List Env}{s₀:Shared}{H₀:Hp}{E:XK}{cv:Nat→Value}
end
end L3
namespace L3
open PySem PySem.Spec L2 SeqAt HT
open PyProof.Rows hiding St
structure RoomH (k:Nat) (A:Around):Prop where
 dp:A.depth+3*k+5<recursionLimit
 un:A.units+16*k+200<cLine
theorem RoomH.deeper{k:Nat}{A:Around}(r:RoomH (k+1) A)(env:Env):RoomH k (A.deeper env):=
 ⟨by have:=r.dp;show A.depth+1+3*k+5<_;omega,by have:=r.un;show A.units+3+16*k+200<_;omega⟩
theorem RoomH.units{k:Nat}{A:Around}(r:RoomH k A):A.units+64<cLine:=by have:=r.un;omega
structure FnOkH (P:Program) (w:World) (K:W.Frag) (mg:Str→Option Value) (base:Heap) (k:Nat) (f:Addr) (fd:FuncData) (ps:List Str) (sp:Sp):Prop where
 len:∀vs H Q E,sp vs H Q E→vs.length=ps.length
 run:∀(A:Around) (outer:List Env) (s:Shared) (H:Hp) (args:Args) (us:List Value) (vs:List V) (Q:VK) (E:XK),RoomH k A→Env0 P w K mg base A outer s H→BindsTo s fd args (ps.zip us)→Vals vs us→sp vs H Q E→
  codeAny (model P w) A (.call (.ref f) args) (CR LR outer P w H s Q E) s
section
variable{P:Program}{w:World}{K:W.Frag}{mg:Str→Option Value}{base:Heap}{cv:Nat→Value}
end
section
variable{X:Cx}{Xw:Nat→Hp→Prop}{cv:Nat→Value}{k m:Nat}{f:Addr}{fd:FuncData}{ps:List Str}{g:List D→M D}{x:Str}{p pos:Pos}{e:Expr}{es:List Expr}{δs:DA}
end
def yx(N:List Str)(osc scope:Scope)(tn:List Str):Bool:=
 decide (scope.kind= .function)&&scope.names.all (fun y=>decide (y.2≠ .cell))&&scope.names.all (fun y=>decide (y.2= .local→scope.names.lookup y.1=some .local))&&
 scope.names.all (fun y=>decide (y.2= .free→(osc.names.lookup y.1=some .cell∨osc.names.lookup y.1=some .free)))&&
 ((de tn N).zip N).all (fun p=>decide (scope.names.lookup p.1=none∨(p.1=p.2∧scope.names.lookup p.1=some .free)))
theorem bK{X:Cx}{N:List Str}{osc scope:Scope}{tn:List Str}(hN:X.N=N)(ho:X.env.scope=osc)(h:yx N osc scope tn=true):CompSc X scope tn:=by
 unfold yx at h
 simp only[Bool.and_eq_true,List.all_eq_true,decide_eq_true_eq] at h
 obtain⟨⟨⟨⟨h1,h2⟩,h3⟩,h4⟩,h5⟩:=h
 refine⟨h1,h2,h3,fun y hy hf=>?_,?_⟩
 ·have:=h4 y hy hf
  rw[←ho] at this
  exact this
 ·rw[hN]
  exact h5
theorem eh{X:Cx}{x:Str}{px:Pos}{σ:St}(hN:X.N.Nodup)(h0:X.N[0]? =some x)(G5:X.env.scope.names.lookup x=some .local):zk X (.Name x px) 0 σ:=fun pins s σ' F H d ts v u I fh hd rv q e=>by
 have e:M.ret [d]=M.ret ts:=e
 have e:=fb e
 subst e
 refine wpAny_assign_Name (v8 I hN h0 (.inl G5) rv (fun s' I'=>⟨[v],?_, .cons q .nil⟩) (.inr G5))
 have hl:0<σ'.length:=by rw[I.len];exact(List.getElem?_eq_some_iff.mp h0).1
 have:σ'.set 0 (some v)=[v].map some++σ:=by
  cases σ' with
  |nil=>simp at hl
  |cons a r=>
   have hd:r=σ:=by simpa using hd
   subst hd
   rfl
 rw[←this]
 exact I'
theorem cS{P:Program}{w:World}{cv:Nat→Value}{X:Cx}:Passes (jy P w cv) X (EX cv fun _ _=>False):=fun _ _ _ _ _ _ _ ⟨_,_,_,_,_,_,_,_,_,_,_,_,_,_,z⟩=>z.elim
def bf(K:W.Frag)(mg:Str→Option Value)(x:Str)(st:Stmt)(f:Addr):Prop:=mg x=some (.ref f)∧∃fd,Fun K x x st f fd
def ag(P:Program)(w:World)(K:W.Frag)(mg:Str→Option Value)(base:Heap)(cv:Nat→Value)(k:Nat)(x:Str)(m:Nat)(g:List D→M D):Prop:=
 ∃f fd ps,mg x=some (.ref f)∧PySem.W.keepIn K (.ref f)=true∧Binds K fd ps []∧FnOk P w K mg base (jy P w cv) k f fd ps (IP K cv m g)
section
variable{X:Cx}{Xw:Nat→Hp→Prop}{cv:Nat→Value}{k m:Nat}{g:List D→M D}{x:Str}{p pos:Pos}{e:Expr}{es:List Expr}{δs:DA}
def ak(m:Nat)(g:List D→M D)(δs:DA):DE:=fun ρ=>δs ρ>>=fun ds=>if ds.length=m then g ds else M.stuck
theorem aP(F:ag X.prog X.w X.K X.mg X.base cv k x m g)(hr:Room k X.A)(hg:Gl X x)(hx:Passes (jy X.prog X.w cv) X (EX cv Xw))
 (ha:lg X Xw (e::es) δs)(hl:(e::es).length=m)(sx:(x==("__debug__":Str))=false:=by decide)(he:starEach (e::es) X.env=(false,eval e X.env)::starEach es X.env:=by rfl)(pS:(backTo pos (starEach es X.env)).any (·.1)=false:=by rfl):
 PD X Xw (.Call (.Name x p) (e::es) [] pos) (ak m g δs):=by
 obtain⟨f,fd,ps,h1,h2,h3,h4⟩:=F
 exact ER h4 hr hg h1 h2 h3 hx ha hl sx he pS
end
theorem ay{P:Program}{w:World}{K:W.Frag}{mg:Str→Option Value}{base:Heap}{cv:Nat→Value}{k:Nat}{x:Str}{st:Stmt}{f:Addr}{N ps:List Str}{τ:DS}(T:bf K mg x st f)(S:FnScope N ps (af st))
 (N6:∀(kV doc pm:Value) (an:Option Addr) (bc ct:Value) (us:List Value),us.length=ps.length→bindArgs (PySem.W.fnOf x x (eF st) (aR st) (af st) .none kV doc pm an bc ct) ⟨us,[]⟩=pure (ps.zip us))
 (nZ:∀(bc:Value) (A:Around) (outer:List Env) (s:Shared) (H:Hp) (E:XK),Room k (A.deeper (envOfC x (af st) s.heap.objs.size f bc))→
  PSDs (dj (jy P w cv) P w K mg base N x (af st) f bc A outer s H E) (fun n H'=>E (cv n) none H') (aR st) τ):ag P w K mg base cv (k+1) x ps.length (bO N.length τ):=by
 obtain⟨h1,fd,Fn⟩:=T
 exact⟨f,fd,ps,h1,Fn.kp,Fn.binds N6,Jq Fn S nZ⟩
section
variable{X:Cx}{Xw:Nat→Hp→Prop}{a e:Expr}{δ:DE}{pos:Pos}
def sP:D→M D
 | .int i=>M.ret (.int (-i))
 |_=>M.stuck
theorem tH(ha:PD X Xw a δ):PD X Xw (.UnaryOp .USub a pos) (d1 sP δ):=PE.weak (Kw IC ha) fun σ H Q ⟨F,ρ,s,w⟩=>by
 refine⟨F,ρ,s,WP.mono (WP.bind w) fun v H1 ⟨F1,d,e1,q,w1⟩=>?_⟩
 cases d with
 |int i=>
  have q:v= .int i:=q
  subst q
  exact⟨i,rfl,WP.now w1 e1.fh rfl⟩
 |_=>exact w1.elim
end
section
variable{X:Cx}{Xw:Nat→Hp→Prop}{pos:Pos}
theorem yX{x z:Str}(hg:Gl X x)(h:∃t,X.mg x=some (.str z t))(hz:z.length≤lim)(sx:(x==("__debug__":Str))=false:=by decide):PD X Xw (.Name x pos) (dC (.str z)):=by
 obtain⟨t,h⟩:=h
 exact yV (v:= .str z) hg h ⟨t,rfl⟩ (fun _=>⟨rfl,hz⟩) sx
theorem tB{x:Str}{i:Int}(hg:Gl X x)(h:∃t,X.mg x=some (.int i t))(sx:(x==("__debug__":Str))=false:=by decide):PD X Xw (.Name x pos) (dC (.int i)):=by
 obtain⟨t,h⟩:=h
 exact yV (v:= .int i) hg h ⟨t,rfl⟩ (fun _=>rfl) sx
end
def Fl(sc osc:Scope):Scope:={sc with names:=sc.names.map fun(n,k)=>if (k== .free&&osc.kind== .function&&osc.names.lookup n==some .cell) then(n, .cell) else(n,k)}
structure Box (p:Prop):Prop where
 out:p
section
variable{X:Cx}{Xw:Nat→Hp→Prop}{a:Expr}{δa:DE}{pos:Pos}
theorem dN{st:Stmt}{rest:List Stmt}{τ τ':DS}(h1:Box (gL X Xw st τ))(h2:Box (PSDs X Xw rest τ')):Box (PSDs X Xw (st::rest) (aA τ τ')):=⟨ai h1.out h2.out⟩
theorem GL{st:Stmt}{τ:DS}(h1:Box (gL X Xw st τ)):Box (PSDs X Xw [st] τ):=⟨ar h1.out⟩
end
theorem K8{l:PySem.W.OpenLaw}{n k:Nat}{q:Program}{loose:List Str}{XP:(Str→Option Value)→Heap→Prop}{YP:World→Heap→Prop}{d:DefRec}{K:Params→W.Frag}{x:Str}{g:List D→M D}
 (hn:l.most=some n)(Lu:n≤lim)(JD:d.params.defaults=[])(hr:Room k callerA)
 (hY:∀(w:World) (h:Heap),YP w h→(K w.params).In h)(hg:∀ns:List Int,ns.length≤n→g [.scr ns]=M.ret (.bl true))
 (F:∀(w:World) (mg:Str→Option Value) (fa:Addr) (h:Heap),(K w.params).In h→h.Ns mainGlobals mg→mg d.name=some (.ref fa)→
  ∃(cv:Nat→Value) (fd:FuncData),(∀(s:Shared) (u:Value),BindsTo s fd ⟨[u],[]⟩ [(x,u)])∧
   ∀base:Heap,(K w.params).In base→base.Ns mainGlobals mg→FnOk l.prog w (K w.params) mg base (jy l.prog w cv) k fa fd [x] (IP (K w.params) cv 1 g)):
 PySem.W.WalkO q loose XP YP l.row.toRowW d [] (fun f vs=>PySem.call f vs):=by
 refine Att.attach_call hn JD fun w s₀ s₁ mg mb fa o pm cd doc a vs ns G Y ho hd wC G7 BB hints hlen PB=>?_
 have KX:=hY w _ Y
 obtain⟨cv,fd,hb,hF⟩:=F w mg fa _ KX G.T.g G7
 refine vc KX G.T.g G.T.b G.T.builtins G.T.nolimit PB BB hints (Nat.le_trans hlen (Nat.le_trans Lu (Nat.le_of_lt eX))) hr hF hb (fun H hO hS=>?_) fun H e s' z=>?_
 ·refine⟨H,[.scr ns],fun _ _ e=>e,⟨_,_,rfl,⟨a,rfl,hS,Nat.le_trans hlen Lu⟩,rfl⟩,rfl,?_⟩
  rw[hg ns hlen]
  exact fun v H' F' e q=>q
 ·obtain⟨_,_,_,_,_,_,_,_,_,_,_,_,_,_,y⟩:=z
section
variable{prog:Program}{w:World}{A:Around}{E:Value→Shared→Prop}{s:Shared}
end
section
variable{X:Cx}{Xw:Nat→Hp→Prop}{e O2:Expr}{te ts:TE}{δ δs:DE}{pos p2:Pos}
variable{o:Expr}{δo:DE}{δl:DA}{apos aT:Pos}
def A5(x y:Str):Nat:=(Builtin.Str.occurrences x y 0 x.length (x.length+1)).length
def uG:D→List D→M D
 | .str x,[.str y]=>M.ret (.int (A5 x y))
 |_,_=>M.stuck
theorem EA:IZ X "str.count" (fun x vs H Q=>∃y z:Str,x= .str y∧vs=[.str z]∧Q (.int (A5 y z)) H):=by
 intro pins s σ H x vs v us Q I rx rv h
 obtain⟨y,z,rfl,rfl,q⟩:=h
 obtain⟨t,rfl⟩:=rx
 obtain⟨u,rfl,r1⟩:=rv.one
 obtain⟨t2,rfl⟩:=r1
 exact call_gives F.slot_str_count (typeIs_str _ _ _) F.entry_str_count (F.args_str_count_2 _ _) (gives_str_count y z t t2) ⟨.int (A5 y z),H,I.tok _,⟨_,rfl⟩,q⟩
theorem ET(ho:PD X Xw o δo)(ha:lg X Xw [e] δl)(fE:attributeBase o "count" X.env (eval o X.env)=eval o X.env:=by rfl)
 (lB:((backTo aT (starEach [e] X.env)).all (fun x=>!x.1)&&(backToKw aT (keywordEach [] X.env)).all (fun x=>x.1.isSome)&&decide ([e].length+([]:List Keyword).length+(if ([]:List Keyword).isEmpty then 0 else 1)<30))=true:=by rfl)
 (fF:(apos.endLine==aT.line)=true:=by rfl)(pT:starEach [e] X.env=[(false,eval e X.env)]:=by rfl):PD X Xw (.Call (.Attribute o "count" apos) [e] [] aT) (dM sG uG δo δl):=
 Co PySem.F.plainAttrs_str PySem.F.slot_str_count PySem.F.type_str_count EA BK (fun Xw F H x vs d ds Q s hx hv w=>by
  unfold uG at w
  split at w
  ·rename_i y z
   obtain⟨v,rfl,h1⟩:=hv.one
   exact⟨y,z,hx.1,by rw[h1.1],WP.now w s rfl⟩
  ·exact w.elim) ho ha fE lB fF pT rfl
end
namespace RV
end RV
def IsTupRev(h:Heap)(it t:Addr)(i:Int):Prop:=∃o,h.get? it=some o∧o.cls= .type "reversed"∧o.data= .fields #[.ref t,rawInt i]
section
variable{prog:Program}{w:World}{A:Around}{E:Value→Shared→Prop}{s:Shared}
theorem IsTupRev.typeIs{it t:Addr}{i:Int}(x:IsTupRev s.heap it t i):s.TypeIs (.ref it) "reversed":=let ⟨o,ho,hc,_⟩:=x;⟨o,ho,hc⟩
end
section
variable{X:Cx}{Xw:Nat→Hp→Prop}{tg e:Expr}{es:List Expr}{δ δi:DE}{δs:DA}{pos p:Pos}
end
end L3
namespace L3
open PySem PySem.Spec L2 SeqAt HT
open PyProof.Rows hiding St
def BS:D→Option Key
 | .int i=>some (.inl i)
 | .str x=>some (.inr x)
 |_=>none
def Er:List D→Option (List Key)
 |[]=>some []
 |d::ds=>match BS d,Er ds with
  |some k,some ks=>some (k::ks)
  |_,_=>none
def jw:D→Option (List Key)
 | .tup ds=>Er ds
 |_=>none
theorem oi{K:W.Frag}{F:Hp}{d:D}{v:V}{k:Key}(e:BS d=some k)(h:Den K F d v):v=kV k:=by
 cases d<;>first | cases e | skip
 ·exact h
 ·exact h.1
theorem kh{K:W.Frag}{F:Hp}:∀{ds:List D}{vs:List V}{ks:List Key},Er ds=some ks→DenL K F ds vs→vs=ks.map kV
 |[],_,_,e,h=>by cases e;exact h
 |d::ds,_,_,e,⟨v,r,h1,h2,h3⟩=>by
  unfold Er at e
  split at e
  ·rename_i k ks e1 e2
   cases e
   subst h1
   rw[List.map_cons,oi e1 h2,kh e2 h3]
  ·cases e
section
variable{κ:Type}[DecidableEq κ]
def eV:List κ→List D→κ→Option D
 |k'::ks,d::ds,k=>if k'=k then some d else eV ks ds k
 |_,_,_=>none
def lU:List κ→List D→κ→D→List D
 |k'::ks,d'::ds,k,d=>(if k'=k then d else d')::lU ks ds k d
 |_,_,_,_=>[]
theorem kO{K:W.Frag}{F:Hp}:∀{ks:List κ}{ds:List D}{vs:List V}(k:κ),DenL K F ds vs→ks.length=ds.length→
 (match eV ks ds k with | some d=>∃v,kQ (ks.zip vs) k=some v∧Den K F d v | none=>kQ (ks.zip vs) k=none)
 |[],[],_,_,_,_=>rfl
 |k'::ks,d::ds,_,k,⟨v,r,h1,h2,h3⟩,hl=>by
  subst h1
  unfold eV
  rw[List.zip_cons_cons]
  by_cases e:k'=k
  ·rw[if_pos e,kS (p:=(k',v)) e]
   exact⟨v,rfl,h2⟩
  ·rw[if_neg e,kR (p:=(k',v)) e]
   exact kO k h3 (by simpa using hl)
 |[],_::_,_,_,_,hl=>by simp at hl
 |_::_,[],_,_,_,hl=>by simp at hl
theorem ja{K:W.Frag}{F:Hp}{ks:List κ}{ds:List D}{vs:List V}(k:κ)(h:DenL K F ds vs)(hl:ks.length=ds.length):(kQ (ks.zip vs) k).isSome=(eV ks ds k).isSome:=by
 have:=kO k h hl
 split at this
 ·rename_i d e
  obtain⟨v,e1,_⟩:=this
  rw[e1,e];rfl
 ·rename_i e
  rw[this,e]
  rfl
theorem vQ{K:W.Frag}{F:Hp}{d:D}{v:V}(hd:Den K F d v):∀{ks:List κ}{ds:List D}{vs:List V}(k:κ),DenL K F ds vs→ks.length=ds.length→
 ∃ws,(ks.zip vs).map (fun kv=>if kv.1=k then(kv.1,v) else kv)=ks.zip ws∧DenL K F (lU ks ds k d) ws
 |[],[],_,_,h,_=>⟨[],rfl,rfl⟩
 |k'::ks,d'::ds,_,k,⟨v',r,h1,h2,h3⟩,hl=>by
  subst h1
  obtain⟨ws,e1,e2⟩:=vQ hd k h3 (by simpa using hl)
  by_cases e:k'=k
  ·refine⟨v::ws,?_,?_⟩
   ·rw[List.zip_cons_cons,List.map_cons,e1,if_pos e];rfl
   ·unfold lU;rw[if_pos e];exact .cons hd e2
  ·refine⟨v'::ws,?_,?_⟩
   ·rw[List.zip_cons_cons,List.map_cons,e1,if_neg e];rfl
   ·unfold lU;rw[if_neg e];exact .cons h2 e2
 |[],_::_,_,_,_,hl=>by simp at hl
 |_::_,[],_,_,_,hl=>by simp at hl
theorem iT:∀(ks:List κ) (ds:List D) (k:κ) (d:D),ks.length=ds.length→(lU ks ds k d).length=ds.length
 |[],[],_,_,_=>rfl
 |_::ks,_::ds,k,d,h=>by unfold lU;rw[List.length_cons,List.length_cons,iT ks ds k d (by simpa using h)]
 |[],_::_,_,_,h=>by simp at h
 |_::_,[],_,_,h=>by simp at h
def df(ks:List κ)(ds:List D)(k:κ):List κ:=if (eV ks ds k).isSome then ks else ks++[k]
def cu(ks:List κ)(ds:List D)(k:κ)(d:D):List D:=if (eV ks ds k).isSome then lU ks ds k d else ds++[d]
theorem tN{K:W.Frag}{F:Hp}{d:D}{v:V}(hd:Den K F d v){ks:List κ}{ds:List D}{vs:List V}(k:κ)(h:DenL K F ds vs)(hl:ks.length=ds.length):
 ∃ws,putK (ks.zip vs) k v=(df ks ds k).zip ws∧DenL K F (cu ks ds k d) ws∧(df ks ds k).length=(cu ks ds k d).length:=by
 have hs:=ja (K:=K) (F:=F) k h hl
 unfold putK df cu
 have ha:((ks.zip vs).any fun kv=>decide (kv.1=k))=(kQ (ks.zip vs) k).isSome:=pJ ..
 rw[ha,hs]
 cases e:(eV ks ds k).isSome with
 |true=>
  rw[if_pos rfl,if_pos rfl,if_pos rfl]
  obtain⟨ws,e1,e2⟩:=vQ hd k h hl
  exact⟨ws,e1,e2,by rw[iT ks ds k d hl];exact hl⟩
 |false=>
  rw[if_neg Bool.false_ne_true,if_neg Bool.false_ne_true,if_neg Bool.false_ne_true]
  refine⟨vs++[v],?_,h.append (.cons hd .nil),by simp[hl]⟩
  rw[List.zip_append (by rw[hl];exact h.len)]
  rfl
end
theorem zj{κ:Type}{K:W.Frag}{F:Hp}{ks:List κ}{ds:List D}{vs:List V}(h:DenL K F ds vs)(hl:ks.length=ds.length):(ks.zip vs).length=ds.length:=by
 rw[List.length_zip,hl,←h.len];omega
def pB(ρ:a5)(i:Nat):Option D:=match ρ[i]? with
 |some (some (.fz d))=>some d
 |some (some (.ow c))=>some c.d
 |_=>none
theorem C9{K:W.Frag}{F H:Hp}{σ:St}{ρ:a5}{i:Nat}{ks:List (List Key)}{ds:List D}(s:StE K F H σ ρ)(e:pB ρ i=some (.dct ks ds)):
 ∃a vs,σ[i]? =some (some (.ref a))∧Rd H a (.dT (ks.zip vs))∧DenL K F ds vs∧ks.length=ds.length∧ds.length≤lim:=by
 unfold pB at e
 split at e
 ·rename_i d e1
  cases e
  obtain⟨v,h1,a,ob,vs,rfl,h2,h3,h4,h5⟩:=s.den i _ e1
  exact⟨a,vs,h1, .inr ⟨ob,s.fh _ _ h2⟩,h3,h4,h5⟩
 ·rename_i c e1
  cases c<;>cases e
  obtain⟨v,h1,a,o,rfl,h2,_,vs,rfl,h3,h4,h5⟩:=s.den i _ e1
  exact⟨a,vs,h1, .inl h2,h3,h4,h5⟩
 ·cases e
theorem C8{K:W.Frag}{F H:Hp}{σ:St}{ρ:a5}{i:Nat}{ks:List Key}{ds:List D}(s:StE K F H σ ρ)(e:pB ρ i=some (.dci ks ds)):
 ∃a vs,σ[i]? =some (some (.ref a))∧Rd H a (.dK (ks.zip vs))∧DenL K F ds vs∧ks.length=ds.length∧ds.length≤lim:=by
 unfold pB at e
 split at e
 ·rename_i d e1
  cases e
  obtain⟨v,h1,a,ob,vs,rfl,h2,h3,h4,h5⟩:=s.den i _ e1
  exact⟨a,vs,h1, .inr ⟨ob,s.fh _ _ h2⟩,h3,h4,h5⟩
 ·rename_i c e1
  cases c<;>cases e
  obtain⟨v,h1,a,o,rfl,h2,_,vs,rfl,h3,h4,h5⟩:=s.den i _ e1
  exact⟨a,vs,h1, .inl h2,h3,h4,h5⟩
 ·cases e
def AK:D→D→Option (Option D)
 | .dct ks ds,k=>(jw k).map (eV ks ds)
 | .dci ks ds,k=>(BS k).map (eV ks ds)
 |_,_=>none
theorem yp{K:W.Frag}{F H:Hp}{σ:St}{ρ:a5}{i:Nat}{d k:D}{y:V}{o:Option D}(s:StE K F H σ ρ)(hi:pB ρ i=some d)(hk:Den K F k y)(e:AK d k=some o):
 ∃a ov,σ[i]? =some (some (.ref a))∧jK H a y ov∧ov.isSome=o.isSome∧∀d',o=some d'→∃v,ov=some v∧Den K F d' v:=by
 unfold AK at e
 split at e
 ·rename_i ks ds
  cases q:jw k with
  |none=>rw[q] at e;cases e
  |some kk=>
   rw[q] at e
   cases e
   obtain⟨a,vs,h1,h2,h3,h4,h5⟩:=C9 s hi
   unfold jw at q
   split at q
   ·rename_i es
    obtain⟨b,ws,rfl,k2,k3,_⟩:=hk
    have e1:=kh q k3
    subst e1
    refine⟨a,_,h1, .inr ⟨_,kk,b,h2,rfl,s.fh _ _ k2,rfl⟩,ja kk h3 h4,fun d' lA=>?_⟩
    have:=kO (K:=K) (F:=F) kk h3 h4
    rw[lA] at this
    exact this
   ·cases q
 ·rename_i ks ds
  cases q:BS k with
  |none=>rw[q] at e;cases e
  |some kk=>
   rw[q] at e
   cases e
   obtain⟨a,vs,h1,h2,h3,h4,h5⟩:=C8 s hi
   have e1:=oi q hk
   subst e1
   refine⟨a,_,h1, .inl ⟨_,kk,h2,rfl,rfl⟩,ja kk h3 h4,fun d' lA=>?_⟩
   have:=kO (K:=K) (F:=F) kk h3 h4
   rw[lA] at this
   exact this
 ·cases e
section
variable{X:Cx}{Xw:Nat→Hp→Prop}{a b:Expr}{δa δb:DE}{pos:Pos}
end
section
variable{X:Cx}{Xw:Nat→Hp→Prop}{a e:Expr}{δ δk δv:DE}{pos p pos' o_ apos aT:Pos}{x:Str}{i:Nat}
def Jh(neg:Bool)(i:Nat)(δ:DE):DE:=fun ρ=>δ ρ>>=fun k=>match pB ρ i with
 |some d=>match AK d k with
  |some o=>M.ret (.bl (if neg then !o.isSome else o.isSome))
  |none=>M.stuck
 |none=>M.stuck
theorem Hh{neg:Bool}{σ:St}{H:Hp}{Q:VK}(h:tD X.K Xw (Jh neg i δ) σ H Q):(fun σ H Q=>tD X.K Xw δ σ H fun y H1=>pG i σ H1 fun x H2=>∃a o,x= .ref a∧jK H2 a y o∧Q (.bl (if neg then !o.isSome else o.isSome)) H2) σ H Q:=by
 obtain⟨F,ρ,s,w⟩:=h
 refine⟨F,ρ,s,WP.mono (WP.bind w) fun y H1 ⟨F1,k,e1,q1,w1⟩=>?_⟩
 have s1:=s.ext e1
 cases hi:pB ρ i with
 |none=>rw[hi] at w1;exact w1.elim
 |some d=>
  rw[hi] at w1
  have w1:WP X.K Xw F1 H1 (match AK d k with | some o=>M.ret (.bl (if neg then !o.isSome else o.isSome)) | none=>M.stuck) Q:=w1
  cases he:AK d k with
  |none=>rw[he] at w1;exact w1.elim
  |some o=>
   rw[he] at w1
   obtain⟨a,ov,h1,h2,h3,_⟩:=yp s1 hi q1 he
   refine⟨.ref a,h1,a,ov,rfl,h2,?_⟩
   rw[h3]
   exact WP.now w1 e1.fh rfl
theorem Nd(hu:X.A.units+64<cLine)(ha:PD X Xw a δ)(hv:PE X (.Name x p) (pG i))(hm:behindInMarks .In (.Name x p)=false:=by rfl):PD X Xw (.Compare a [.In] [.Name x p] pos) (Jh false i δ):=
 PE.weak (HN (HH (by omega) ha hv) hm) fun σ H Q h=>Hh (neg:=false) h
def vU(i:Nat):DS:=fun ρ=>M.ret (.nx (ρ.set i (some (.ow (.dct [] [])))))
theorem kH(hN:X.N.Nodup)(hi:X.N[i]? =some x)(hx:Loc X.env.scope x)(hf:X.fn x=true∨X.env.scope.names.lookup x=some .local:=by first | exact .inl rfl | exact .inr rfl):
 gL X Xw (.Assign [.Name x pos'] (.Dict [] [] o_) pos) (vU i):=fun F₀ H₀=>PS.weak (tL CI (a7 hN hi hx hf) rfl) fun D σ H ⟨F,ρ,s,w⟩=>fun q hq=>
 w _ F _ (s.setNew (c₀:= .dct [] []) hq ⟨[],rfl,rfl,rfl,Nat.zero_le _⟩)
def lQ:C→D→D→Option C
 | .dct ks ds,k,d=>match jw k with
   |some kk=>if ds.length<lim then some (.dct (df ks ds kk) (cu ks ds kk d)) else none
   |none=>none
 | .dci ks ds,k,d=>match BS k with
   |some kk=>if ds.length<lim then some (.dci (df ks ds kk) (cu ks ds kk d)) else none
   |none=>none
 |_,_,_=>none
def xE(ρ:a5)(i:Nat):Option C:=match ρ[i]? with
 |some (some (.ow c))=>some c
 |_=>none
theorem rk{ρ:a5}{i:Nat}{c:C}(h:xE ρ i=some c):ρ[i]? =some (some (.ow c)):=by
 unfold xE at h
 split at h
 ·rename_i c' e
  cases h
  exact e
 ·cases h
def ig(i:Nat)(δk δv:DE):DS:=fun ρ=>match xE ρ i with
 |some c=>δv ρ>>=fun v=>δk ρ>>=fun k=>match lQ c k v with
  |some c'=>M.ret (.nx (ρ.set i (some (.ow c'))))
  |none=>M.stuck
 |none=>M.stuck
theorem rE{κ:Type}[DecidableEq κ]{ks:List κ}{ds:List D}{k:κ}{d:D}(hl:ks.length=ds.length)(h:ds.length<lim):(cu ks ds k d).length≤lim:=by
 unfold cu
 split
 ·rw[iT ks ds k d hl];omega
 ·rw[List.length_append];exact h
theorem CV{K:W.Frag}{F H:Hp}{c c':C}{k d:D}{y v:V}{o:HO}{b:Addr}(hs:Same F H)(hb:H b=some o)(hc:DenC K F c o)(hk:Den K F k y)(hd:Den K F d v)(e:lQ c k d=some c'):∃o',DPut H b y v (upd H b o')∧DenC K F c' o':=by
 have JM:=eX
 unfold lQ at e
 split at e
 ·rename_i ks ds k d
  obtain⟨vs,rfl,h3,h4,h5⟩:=hc
  split at e
  ·rename_i kk q
   split at e
   ·rename_i eO
    cases e
    unfold jw at q
    split at q
    ·rename_i es
     obtain⟨b2,ws,rfl,k2,k3,_⟩:=hk
     have e1:=kh q k3
     subst e1
     obtain⟨us,e2,e3,e4⟩:=tN hd kk h3 h4
     refine⟨_,DPut.t hb (hs _ _ k2) (by rw[zj h3 h4];omega),us,?_,e3,e4,rE h4 eO⟩
     rw[e2]
    ·cases q
   ·cases e
  ·cases e
 ·rename_i ks ds k d
  obtain⟨vs,rfl,h3,h4,h5⟩:=hc
  split at e
  ·rename_i kk q
   split at e
   ·rename_i eO
    cases e
    have e1:=oi q hk
    subst e1
    obtain⟨us,e2,e3,e4⟩:=tN hd kk h3 h4
    refine⟨_,DPut.k hb (by rw[zj h3 h4];omega),us,?_,e3,e4,rE h4 eO⟩
    rw[e2]
   ·cases e
  ·cases e
 ·cases e
theorem kI(hu:X.A.units+64<cLine)(hv:PE X (.Name x p) (pG i))(hk:PD X Xw a δk)(he:PD X Xw e δv)(hs:swapsWith e (some (.Subscript (.Name x p) a pos')) pos.line X.env=pure false:=by rfl):
 gL X Xw (.Assign [.Subscript (.Name x p) a pos'] e pos) (ig i δk δv):=fun F₀ H₀=>PS.weak (Fb (by omega) hv hk he hs) fun D σ H ⟨F,ρ,s,w⟩=>by
 unfold ig at w
 cases ho:xE ρ i with
 |none=>rw[ho] at w;exact w.elim
 |some c=>
  rw[ho] at w
  have hi:=rk ho
  have w:WPS X.K Xw F₀ H₀ (δv ρ>>=fun v=>δk ρ>>=fun k=>match lQ c k v with | some c'=>M.ret (.nx (ρ.set i (some (.ow c')))) | none=>M.stuck) D:=w
  refine⟨F,ρ,s.st,?_⟩
  rcases(δv ρ).cs with q | ⟨n,q⟩ | ⟨dv,q⟩
  ·rw[q] at w;exact w.elim
  ·rw[q] at w⊢;exact fun F' H' e'=>w F' H' (s.ext.trans e')
  ·rw[q] at w⊢
   intro v H1 F1 e1 hq
   have s1:=s.ext' e1
   obtain⟨u,h1,b,o,rfl,h2,h3,h4⟩:=s1.st.den i _ hi
   have w:WPS X.K Xw F₀ H₀ (δk ρ>>=fun k=>match lQ c k dv with | some c'=>M.ret (.nx (ρ.set i (some (.ow c')))) | none=>M.stuck) D:=w
   refine⟨.ref b,h1,F1,ρ,s1.st,?_⟩
   rcases(δk ρ).cs with q2 | ⟨n,q2⟩ | ⟨dk,q2⟩
   ·rw[q2] at w;exact w.elim
   ·rw[q2] at w⊢;exact fun F' H' e'=>w F' H' (s1.ext.trans e')
   ·rw[q2] at w⊢
    intro y H2 F2 e2 hy
    have w:WPS X.K Xw F₀ H₀ (match lQ c dk dv with | some c'=>M.ret (.nx (ρ.set i (some (.ow c')))) | none=>M.stuck) D:=w
    cases hp:lQ c dk dv with
    |none=>rw[hp] at w;exact w.elim
    |some c'=>
     rw[hp] at w
     have s2:=s1.ext' e2
     obtain⟨u2,k1,b2,o2,G0,k2,k3,k4⟩:=s2.st.den i _ hi
     rw[h1] at k1
     cases k1
     cases G0
     obtain⟨o',g,hc⟩:=CV s2.st.fh k2 k4 hy (Den.mono e2.ff hq) hp
     exact⟨b,_,rfl,g,w σ F2 _ (s2.chg hi h1 hc)⟩
end
def eE(c:DT)(body:DS):Nat→DS
 |0,_=>M.stuck
 |n+1,ρ=>c ρ>>=fun b=>if b then body ρ>>=fun o=>match o with | .nx ρ'=>eE c body n ρ' | .rt d=>M.ret (.rt d) else M.ret (.nx ρ)
def xN(c:DT)(body:DS):DS:=fun ρ=>eE c body lim ρ
section
variable{X:Cx}{Xw:Nat→Hp→Prop}{τ:DS}{tc:DT}{pos:Pos}
theorem rC{c:Expr}{body:List Stmt}(hp:PassesOwn (model X.prog X.w) X.A X.env X.xe)(hc:k9 X Xw c tc)(hb:PSDs X Xw body τ):gL X Xw (.While c body [] pos) (xN tc τ):=fun F₀ H₀=>PS.weak (CN hp hc hb.ex) fun D σ H ⟨F,ρ,s,w⟩=>by
 refine⟨fun m σ H=>∃F ρ,StOk X.K F₀ H₀ F H σ ρ∧WPS X.K Xw F₀ H₀ (eE tc τ m ρ) D,⟨lim,F,ρ,s,w⟩,?_⟩
 rintro m σ H ⟨F,ρ,s,w⟩
 cases m with
 |zero=>exact w.elim
 |succ m=>
  refine⟨F,ρ,s.st,?_⟩
  unfold eE at w
  match tc ρ,w with
  |none,w=>exact w
  |some (.ex n),w=>exact fun F' H' e'=>w F' H' (s.ext.trans e')
  |some (.ok false),w=>exact fun H' F' e'=>w σ F' H' (s.ext' e')
  |some (.ok true),w=>
   intro H' F' e'
   have w:WPS X.K Xw F₀ H₀ (τ ρ>>=fun o=>match o with | .nx ρ'=>eE tc τ m ρ' | .rt d=>M.ret (.rt d)) D:=w
   refine⟨fun σ' H'=>∃F' ρ',StOk X.K F₀ H₀ F' H' σ' ρ'∧WPS X.K Xw F₀ H₀ (eE tc τ m ρ') D,fun σ' H' h=>⟨m,Nat.lt_succ_self m,h⟩,F₀,H₀,F',ρ,s.ext' e',?_⟩
   match τ ρ,w with
   |none,w=>exact w
   |some (.ok (.nx ρ')),w=>exact fun σ' F' H' s'=>⟨F',ρ',s',w⟩
   |some (.ok (.rt d)),w=>exact w
   |some (.ex n),w=>exact w
end
section
variable{X:Cx}{Xw:Nat→Hp→Prop}{a b:Expr}{δa δb:DE}{pos:Pos}
end
end L3
namespace L3
open PySem PySem.W PyProof.Rows
def dw{α:Type}(b:Nat→Nat→Bool):KasT α→α
 | .ret a=>a
 | .ask i j k=>dw b (k (b i j))
theorem fm{α β:Type}(b:Nat→Nat→Bool)(f:α→KasT β):∀t:KasT α,dw b (t.bind f)=dw b (f (dw b t))
 | .ret _=>rfl
 | .ask i j k=>fm b f (k (b i j))
structure Lt (n:Nat) (b:Nat→Nat→Bool):Prop where
 tr:∀i j k,b i j=true→b j k=true→b i k=true
 Q1:∀i j,b i j=true→b j i=false
 tot:∀i j,i<n→j<n→i≠j→b i j=true∨b j i=true
abbrev at'(p:Array Nat)(i:Nat):Nat:=p.getD i 0
def Ri(b:Nat→Nat→Bool)(p:Array Nat)(k:Nat):Prop:=∀i j,i<j→j<k→b (at' p i) (at' p j)=true
def Fa(b:Nat→Nat→Bool)(p:Array Nat)(k:Nat):Prop:=∀i j,i<j→j<k→b (at' p j) (at' p i)=true
structure PN (n:Nat) (p:Array Nat):Prop where
 sz:p.size=n
 lt:∀i,i<n→at' p i<n
 inj:∀i j,i<n→j<n→at' p i=at' p j→i=j
section
variable{n:Nat}{b:Nat→Nat→Bool}(L:Lt n b)
include L
theorem Ri.more{p:Array Nat}{k:Nat}(h:Ri b p k)(h1:1≤k)(e:b (at' p (k - 1)) (at' p k)=true):Ri b p (k+1):=fun i j u3 hj=>by
 by_cases hk:j<k
 ·exact h i j u3 hk
 ·have:j=k:=by omega
  subst this
  by_cases hi:i=j - 1
  ·subst hi;exact e
  ·exact L.tr _ _ _ (h i (j - 1) (by omega) (by omega)) e
theorem Fa.more{p:Array Nat}{k:Nat}(h:Fa b p k)(h1:1≤k)(e:b (at' p k) (at' p (k - 1))=true):Fa b p (k+1):=fun i j u3 hj=>by
 by_cases hk:j<k
 ·exact h i j u3 hk
 ·have:j=k:=by omega
  subst this
  by_cases hi:i=j - 1
  ·subst hi;exact e
  ·exact L.tr _ _ _ e (h i (j - 1) (by omega) (by omega))
theorem rY{p:Array Nat}(P:PN n p):∀(f k:Nat),1≤k→k+f≤n→Ri b p k→k≤dw b (kas_asc p f k)∧dw b (kas_asc p f k)≤k+f∧Ri b p (dw b (kas_asc p f k))∧(dw b (kas_asc p f k)<k+f→b (at' p (dw b (kas_asc p f k))) (at' p (dw b (kas_asc p f k) - 1))=true)
 |0,k,h1,hn,h=>⟨Nat.le_refl _,Nat.le_refl _,h,fun z=>absurd z (Nat.lt_irrefl _)⟩
 |f+1,k,h1,hn,h=>by
  have e:dw b (kas_asc p (f+1) k)=dw b (if b (at' p k) (at' p (k - 1))=true then KasT.ret k else kas_asc p f (k+1)):=rfl
  rw[e]
  by_cases hb:b (at' p k) (at' p (k - 1))=true
  ·rw[if_pos hb]
   exact⟨Nat.le_refl _,by show k≤_;omega,h,fun _=>hb⟩
  ·rw[if_neg hb]
   have hr:b (at' p (k - 1)) (at' p k)=true:=by
    rcases L.tot (at' p (k - 1)) (at' p k) (P.lt _ (by omega)) (P.lt _ (by omega)) (fun z=>by have:=P.inj _ _ (by omega) (by omega) z;omega) with q | q
    ·exact q
    ·exact absurd q hb
   obtain⟨a1,a2,a3,a4⟩:=rY P f (k+1) (by omega) (by omega) (Ri.more L h h1 hr)
   exact⟨by omega,by omega,a3,fun z=>a4 (by omega)⟩
theorem uN{p:Array Nat}(P:PN n p):∀(f k:Nat),1≤k→k+f≤n→Fa b p k→∃m,dw b (kas_desc f p k 0)=(p,m,0)∧k≤m∧m≤k+f∧Fa b p m
 |0,k,h1,hn,h=>⟨k,rfl,Nat.le_refl _,Nat.le_refl _,h⟩
 |f+1,k,h1,hn,h=>by
  have e:dw b (kas_desc (f+1) p k 0)=dw b (if b (at' p k) (at' p (k - 1))=true then(if 0>0 then kas_desc f (kas_rev p (k - (0+1)) k) (k+1) 0 else kas_desc f p (k+1) 0)
   else .ask (p.getD (k - 1) 0) (p.getD k 0) fun d=>if d=true then .ret (p,k,0) else kas_desc f p (k+1) (0+1)):=rfl
  rw[e]
  by_cases hb:b (at' p k) (at' p (k - 1))=true
  ·rw[if_pos hb,if_neg (by omega)]
   obtain⟨m,e1,e2,e3,e4⟩:=uN P f (k+1) (by omega) (by omega) (Fa.more L h h1 hb)
   exact⟨m,e1,by omega,by omega,e4⟩
  ·rw[if_neg hb]
   have hr:b (at' p (k - 1)) (at' p k)=true:=by
    rcases L.tot (at' p (k - 1)) (at' p k) (P.lt _ (by omega)) (P.lt _ (by omega)) (fun z=>by have:=P.inj _ _ (by omega) (by omega) z;omega) with q | q
    ·exact q
    ·exact absurd q hb
   refine⟨k,?_,Nat.le_refl _,by omega,h⟩
   show dw b (if b (at' p (k - 1)) (at' p k)=true then KasT.ret (p,k,0) else kas_desc f p (k+1) (0+1))=_
   rw[if_pos hr]
   rfl
end
theorem eW(p:Array Nat)(k:Nat):at' p k=(p[k]?).getD 0:=by
 unfold at'
 rw[Array.getD_eq_getD_getElem?]
theorem C2{p:Array Nat}{m:Nat}(hm:m≤p.size)(k:Nat):at' (kas_rev p 0 m) k=if k<m then at' p (m - 1 - k) else at' p k:=by
 have e:=getElem?_mirror_all (xs:=p) (i:=0) hm k
 rw[eW]
 show (((mirror p 0 m ((m - 0) / 2))[k]?).getD 0)=_
 rw[e]
 by_cases h:k<m
 ·rw[if_pos ⟨Nat.zero_le _,h⟩,if_pos h,eW,Nat.zero_add]
 ·rw[if_neg (fun z=>h z.2),if_neg h,eW]
theorem AW{p:Array Nat}{k l:Nat}(hk:k<p.size)(hl:l≤k)(j:Nat):at' (bubble p k (k - l)) j=if j=l then at' p k else if l<j∧j≤k then at' p (j - 1) else at' p j:=by
 have e:=getElem?_bubble hk (k - l) (by omega) j
 have e2:k - (k - l)=l:=by omega
 rw[e2] at e
 rw[eW (bubble p k (k - l)),e,eW p k,eW p (j - 1),eW p j]
 by_cases c1:j=l
 ·rw[if_pos c1,if_pos c1]
 ·rw[if_neg c1,if_neg c1]
  by_cases c2:l<j∧j≤k
  ·rw[if_pos c2,if_pos c2]
  ·rw[if_neg c2,if_neg c2]
section
variable{n:Nat}{b:Nat→Nat→Bool}
theorem PN.rev{p:Array Nat}(P:PN n p){m:Nat}(hm:m≤n):PN n (kas_rev p 0 m):=by
 have ha:=C2 (p:=p) (m:=m) (by rw[P.sz];exact hm)
 refine⟨(mirror_size ..).trans P.sz,fun i hi=>?_,fun i j hi hj e=>?_⟩
 ·rw[ha]
  split
  ·exact P.lt _ (by omega)
  ·exact P.lt _ hi
 ·rw[ha,ha] at e
  split at e<;>split at e
  ·have:=P.inj _ _ (by omega) (by omega) e;omega
  ·have:=P.inj _ _ (by omega) hj e;omega
  ·have:=P.inj _ _ hi (by omega) e;omega
  ·exact P.inj _ _ hi hj e
theorem PN.bub{p:Array Nat}(P:PN n p){k l:Nat}(hk:k<n)(hl:l≤k):PN n (bubble p k (k - l)):=by
 have ha:=AW (p:=p) (k:=k) (l:=l) (by rw[P.sz];exact hk) hl
 refine⟨(bubble_size ..).trans P.sz,fun i hi=>?_,fun i j hi hj e=>?_⟩
 ·rw[ha]
  split
  ·exact P.lt _ hk
  ·split
   ·exact P.lt _ (by omega)
   ·exact P.lt _ hi
 ·rw[ha,ha] at e
  split at e
  ·split at e
   ·omega
   ·split at e
    ·have:=P.inj _ _ hk (by omega) e;omega
    ·have:=P.inj _ _ hk hj e;omega
  ·split at e
   ·split at e
    ·have:=P.inj _ _ (by omega) hk e;omega
    ·split at e
     ·have:=P.inj _ _ (by omega) (by omega) e;omega
     ·have:=P.inj _ _ (by omega) hj e;omega
   ·split at e
    ·have:=P.inj _ _ hi hk e;omega
    ·split at e
     ·have:=P.inj _ _ hi (by omega) e;omega
     ·exact P.inj _ _ hi hj e
theorem Fa.rev{p:Array Nat}(P:PN n p){m:Nat}(hm:m≤n)(h:Fa b p m):Ri b (kas_rev p 0 m) m:=fun i j u3 hj=>by
 have ha:=C2 (p:=p) (m:=m) (by rw[P.sz];exact hm)
 rw[ha,ha,if_pos (by omega),if_pos hj]
 exact h _ _ (by omega) (by omega)
variable(L:Lt n b)
include L
theorem Dp{p:Array Nat}(P:PN n p){m:Nat}(h1:1≤m)(hm:m≤n)(h:Fa b p m):∃k q,dw b (kas_tail3 m n p)=(k,q)∧PN n q∧1≤k∧k≤n∧Ri b q k:=by
 unfold kas_tail3
 rw[fm]
 obtain⟨a1,a2,a3,_⟩:=rY L (P.rev hm) (n - m) m h1 (by omega) (Fa.rev P hm h)
 exact⟨_,_,rfl,P.rev hm,by omega,by omega,a3⟩
theorem zA{p:Array Nat}(P:PN n p)(h2:2≤n):∃k q,dw b (kas_count n p)=(k,q)∧PN n q∧1≤k∧k≤n∧Ri b q k:=by
 unfold kas_count
 rw[fm]
 obtain⟨a1,a2,a3,a4⟩:=rY L P (n - 1) 1 (Nat.le_refl _) (by omega) (fun i j u3 hj=>by omega)
 generalize dw b (kas_asc p (n - 1) 1)=m at a1 a2 a3 a4
 by_cases he:m=n
 ·subst he
  rw[if_pos (by simp)]
  exact⟨m,p,rfl,P,by omega,Nat.le_refl _,a3⟩
 ·rw[if_neg (by simpa using he)]
  by_cases hg:m>1
  ·rw[if_pos hg]
   have hb:b (p.getD 0 0) (p.getD (m - 1) 0)=true:=a3 0 (m - 1) (by omega) (by omega)
   show∃k q,dw b (if b (p.getD 0 0) (p.getD (m - 1) 0)=true then KasT.ret (m,p) else kas_descPart m n (kas_rev p 0 m))=(k,q)∧_
   rw[if_pos hb]
   exact⟨m,p,rfl,P,by omega,by omega,a3⟩
  ·rw[if_neg hg]
   have hm:m=1:=by omega
   subst hm
   have hb:=a4 (by omega)
   unfold kas_descPart
   rw[fm]
   obtain⟨m,e1,e2,e3,e4⟩:=uN L P (n - (1+1)) (1+1) (by omega) (by omega) (fun i j u3 hj=>by
    have hi:i=0:=by omega
    have hj:j=1:=by omega
    subst hi hj
    exact hb)
   rw[e1]
   dsimp only
   rw[if_neg (by omega)]
   exact Dp L P (by omega) (by omega) e4
theorem lP{p:Array Nat}(P:PN n p){k:Nat}(hk:k<n)(h:Ri b p k):∀(f l r:Nat),l≤r→r≤k→r - l≤f→(∀i,i<l→b (at' p i) (at' p k)=true)→(∀i,r≤i→i<k→b (at' p k) (at' p i)=true)→
 dw b (kas_place p k f l r)≤k∧(∀i,i<dw b (kas_place p k f l r)→b (at' p i) (at' p k)=true)∧∀i,dw b (kas_place p k f l r)≤i→i<k→b (at' p k) (at' p i)=true
 |0,l,r,h1,h2,h3,h4,h5=>by
  have:r=l:=by omega
  subst this
  exact⟨h2,h4,h5⟩
 |f+1,l,r,h1,h2,h3,h4,h5=>by
  unfold kas_place
  by_cases Oh:l≥r
  ·rw[if_pos Oh]
   have:r=l:=by omega
   subst this
   exact⟨h2,h4,h5⟩
  ·rw[if_neg Oh]
   have hm:(l+r) / 2<r:=by omega
   have G6:l≤(l+r) / 2:=by omega
   show dw b (if b (at' p k) (at' p ((l+r) / 2))=true then kas_place p k f l ((l+r) / 2) else kas_place p k f ((l+r) / 2+1) r)≤k∧(∀i,i<dw b (if b (at' p k) (at' p ((l+r) / 2))=true then kas_place p k f l ((l+r) / 2) else kas_place p k f ((l+r) / 2+1) r)→_)∧∀i,dw b (if b (at' p k) (at' p ((l+r) / 2))=true then kas_place p k f l ((l+r) / 2) else kas_place p k f ((l+r) / 2+1) r)≤i→_
   by_cases hb:b (at' p k) (at' p ((l+r) / 2))=true
   ·rw[if_pos hb]
    refine lP P hk h f l ((l+r) / 2) G6 (by omega) (by omega) h4 fun i hi PJ=>?_
    by_cases e:i=(l+r) / 2
    ·rw[e];exact hb
    ·exact L.tr _ _ _ hb (h _ _ (by omega) PJ)
   ·rw[if_neg hb]
    have hr:b (at' p ((l+r) / 2)) (at' p k)=true:=by
     rcases L.tot (at' p ((l+r) / 2)) (at' p k) (P.lt _ (by omega)) (P.lt _ hk) (fun z=>by have:=P.inj _ _ (by omega) hk z;omega) with q | q
     ·exact q
     ·exact absurd q hb
    refine lP P hk h f ((l+r) / 2+1) r (by omega) h2 (by omega) (fun i hi=>?_) h5
    by_cases e:i=(l+r) / 2
    ·rw[e];exact hr
    ·exact L.tr _ _ _ (h i ((l+r) / 2) (by omega) (by omega)) hr
theorem yu:∀(f:Nat) {p:Array Nat}{k:Nat},PN n p→k+f≤n→Ri b p k→PN n (dw b (kas_bin f p k))∧Ri b (dw b (kas_bin f p k)) (k+f)
 |0,p,k,P,_,h=>⟨P,h⟩
 |f+1,p,k,P,hn,h=>by
  have hk:k<n:=by omega
  unfold kas_bin
  rw[fm]
  obtain⟨a1,a2,a3⟩:=lP L P hk h k 0 k (Nat.zero_le _) (Nat.le_refl _) (by omega) (fun i hi=>by omega) (fun i h1 h2=>by omega)
  generalize dw b (kas_place p k k 0 k)=l at a1 a2 a3
  have ha:=AW (p:=p) (k:=k) (l:=l) (by rw[P.sz];exact hk) a1
  have hR:Ri b (bubble p k (k - l)) (k+1):=fun i j u3 hj=>by
   rw[ha,ha]
   by_cases c1:i=l
   ·rw[if_pos c1,if_neg (by omega),if_pos ⟨by omega,by omega⟩]
    exact a3 _ (by omega) (by omega)
   ·rw[if_neg c1]
    by_cases c2:j=l
    ·rw[if_pos c2,if_neg (by omega)]
     exact a2 _ (by omega)
    ·rw[if_neg c2]
     by_cases c3:l<i∧i≤k
     ·rw[if_pos c3,if_pos ⟨by omega,by omega⟩]
      exact h _ _ (by omega) (by omega)
     ·rw[if_neg c3]
      by_cases c4:l<j∧j≤k
      ·rw[if_pos c4]
       exact h _ _ (by omega) (by omega)
      ·rw[if_neg c4]
       exact h _ _ u3 (by omega)
  have:=yu f (P.bub hk a1) (by omega) hR
  rw[show k+(f+1)=k+1+f by omega]
  exact this
theorem Dc(h2:2≤n):PN n (dw b (kas_sort n))∧Ri b (dw b (kas_sort n)) n:=by
 have P0:PN n (List.toArray (List.range n)):=by
  have e:∀i,i<n→at' (List.toArray (List.range n)) i=i:=fun i hi=>by rw[eW];simp[hi]
  exact⟨by simp,fun i hi=>by rw[e i hi];exact hi,fun i j hi hj z=>by rw[e i hi,e j hj] at z;exact z⟩
 unfold kas_sort
 rw[fm]
 obtain⟨k,q,e,P,k1,kn,hR⟩:=zA L P0 h2
 rw[e]
 dsimp only
 by_cases eO:k<n
 ·rw[if_pos eO]
  have:=yu L (n - max k 1) (k:=max k 1) P (by omega) (by rw[show max k 1=k by omega];exact hR)
  rw[show max k 1+(n - max k 1)=n by omega] at this
  exact this
 ·rw[if_neg eO]
  have:k=n:=by omega
  subst this
  exact⟨P,hR⟩
end
def Asks{α:Type}(n:Nat)(P:α→Prop):KasT α→Prop
 | .ret a=>P a
 | .ask i j k=>i<n∧j<n∧∀c,Asks n P (k c)
theorem Asks.bind{α β:Type}{n:Nat}{P:α→Prop}{Q:β→Prop}{f:α→KasT β}:∀{t:KasT α},Asks n P t→(∀a,P a→Asks n Q (f a))→Asks n Q (t.bind f)
 | .ret a,h,hf=>hf a h
 | .ask i j k,h,hf=>⟨h.1,h.2.1,fun c=>Asks.bind (h.2.2 c) hf⟩
theorem wp_run{α:Type}{n:Nat}{P:α→Prop}{b:Nat→Nat→Bool}{cmp:Nat→Nat→(Bool→Shared→Prop)→Shared→Prop}{Q:α→Shared→Prop}{s:Shared}(hc:∀i j C,i<n→j<n→C (b i j) s→cmp i j C s):∀{t:KasT α},Asks n P t→Q (dw b t) s→t.kasWp cmp Q s
 | .ret a,_,h=>h
 | .ask i j k,ha,h=>hc i j _ ha.1 ha.2.1 (wp_run hc (ha.2.2 _) h)
def Below(n:Nat)(p:Array Nat):Prop:=∀x∈p,x<n
section
variable{n:Nat}(hn:0<n)
include hn
theorem Below.at{p:Array Nat}(h:Below n p)(i:Nat):at' p i<n:=by
 rw[eW]
 cases e:p[i]? with
 |none=>exact hn
 |some x=>exact h x (Array.mem_of_getElem? e)
theorem Below.rev{p:Array Nat}(h:Below n p)(i j:Nat):Below n (kas_rev p i j):=fun x hx=>h x ((mirror_perm p i j ((j - i) / 2)).mem_iff.mp hx)
theorem Below.bub{p:Array Nat}(h:Below n p)(k d:Nat):Below n (bubble p k d):=fun x hx=>h x ((bubble_perm p k d).mem_iff.mp hx)
theorem nK{p:Array Nat}(h:Below n p):∀f k,Asks n (fun _=>True) (kas_asc p f k)
 |0,k=>trivial
 |f+1,k=>⟨Below.at hn h _,Below.at hn h _,fun c=>by
  show Asks n _ (if c=true then KasT.ret k else kas_asc p f (k+1))
  cases c
  ·exact nK h f (k+1)
  ·exact trivial⟩
theorem jc:∀f {p:Array Nat} k q,Below n p→Asks n (fun r=>Below n r.1) (kas_desc f p k q)
 |0,p,k,q,h=>h
 |f+1,p,k,q,h=>⟨Below.at hn h _,Below.at hn h _,fun c=>by
  cases c
  ·refine⟨Below.at hn h _,Below.at hn h _,fun d=>?_⟩
   cases d
   ·exact jc f _ _ h
   ·exact h
  ·show Asks n _ (if q>0 then kas_desc f (kas_rev p (k - (q+1)) k) (k+1) 0 else kas_desc f p (k+1) 0)
   split
   ·exact jc f _ _ (Below.rev hn h _ _)
   ·exact jc f _ _ h⟩
theorem qw{p:Array Nat}(h:Below n p)(m r:Nat):Asks n (fun x=>Below n x.2) (kas_tail3 m r p):=Asks.bind (nK hn (Below.rev hn h 0 m) _ _) fun _ _=>Below.rev hn h 0 m
theorem nL{p:Array Nat}(h:Below n p)(m r:Nat):Asks n (fun x=>Below n x.2) (kas_descPart m r p):=Asks.bind (jc hn _ _ _ h) fun x hx=>by
 split
 ·exact qw hn (Below.rev hn hx _ _) _ _
 ·exact qw hn hx _ _
theorem wI{p:Array Nat}(h:Below n p)(r:Nat):Asks n (fun x=>Below n x.2) (kas_count r p):=Asks.bind (nK hn h _ _) fun m _=>by
 split
 ·exact h
 ·split
  ·refine⟨Below.at hn h _,Below.at hn h _,fun c=>?_⟩
   cases c
   ·exact nL hn (Below.rev hn h _ _) _ _
   ·exact h
  ·exact nL hn h _ _
theorem jM{p:Array Nat}(h:Below n p)(k:Nat):∀f l r,Asks n (fun _=>True) (kas_place p k f l r)
 |0,l,r=>trivial
 |f+1,l,r=>by
  unfold kas_place
  split
  ·exact trivial
  ·refine⟨Below.at hn h _,Below.at hn h _,fun c=>?_⟩
   cases c
   ·exact jM h k f _ _
   ·exact jM h k f _ _
theorem uz:∀f {p:Array Nat} k,Below n p→Asks n (fun _=>True) (kas_bin f p k)
 |0,p,k,h=>trivial
 |f+1,p,k,h=>Asks.bind (jM hn h k _ _ _) fun l _=>uz f _ (Below.bub hn h _ _)
theorem zm:Asks n (fun _=>True) (kas_sort n):=by
 have h0:Below n (List.toArray (List.range n)):=fun x hx=>by simpa using hx
 refine Asks.bind (wI hn h0 n) fun x hx=>?_
 split
 ·exact uz hn _ _ hx
 ·exact trivial
end
def et:List Int→List Int→Bool
 |[],[]=>false
 |[],_::_=>true
 |_::_,[]=>false
 |x::xs,y::ys=>if x=y then et xs ys else decide (x<y)
theorem sJ:∀a b c:List Int,et a b=true→et b c=true→et a c=true
 |[],[],_,h,_=>by cases h
 |[],_::_,[],_,h=>by cases h
 |[],_::_,_::_,_,_=>rfl
 |_::_,[],_,h,_=>by cases h
 |_::_,_::_,[],_,h=>by cases h
 |x::a,y::b,z::c,h1,h2=>by
  unfold et at h1 h2⊢
  by_cases e1:x=y
  ·subst e1
   rw[if_pos rfl] at h1
   by_cases e2:x=z
   ·subst e2
    rw[if_pos rfl] at h2⊢
    exact sJ a b c h1 h2
   ·rw[if_neg e2] at h2⊢
    exact h2
  ·rw[if_neg e1] at h1
   have h1:=of_decide_eq_true h1
   by_cases e2:y=z
   ·subst e2
    rw[if_neg e1]
    exact decide_eq_true h1
   ·rw[if_neg e2] at h2
    have h2:=of_decide_eq_true h2
    rw[if_neg (by omega)]
    exact decide_eq_true (by omega)
theorem ki:∀a b:List Int,et a b=true→et b a=false
 |[],[],h=>by cases h
 |[],_::_,_=>rfl
 |_::_,[],h=>by cases h
 |x::a,y::b,h=>by
  unfold et at h⊢
  by_cases e:x=y
  ·subst e
   rw[if_pos rfl] at h⊢
   exact ki a b h
  ·rw[if_neg e] at h
   have h:=of_decide_eq_true h
   rw[if_neg (fun z=>e z.symm)]
   exact decide_eq_false (by omega)
theorem om:∀a b:List Int,a≠b→et a b=true∨et b a=true
 |[],[],h=>absurd rfl h
 |[],_::_,_=> .inl rfl
 |_::_,[],_=> .inr rfl
 |x::a,y::b,h=>by
  unfold et
  by_cases e:x=y
  ·subst e
   rw[if_pos rfl,if_pos rfl]
   exact om a b fun z=>h (by rw[z])
  ·rw[if_neg e,if_neg (fun z=>e z.symm)]
   by_cases q:x<y
   ·exact .inl (decide_eq_true q)
   ·exact .inr (decide_eq_true (by omega))
section
variable{prog:Program}{w:World}{A:Around}{E:Value→Shared→Prop}{s:Shared}
theorem vg{Q:Bool→Shared→Prop}:∀{us vs:List Value}{xs ys:List Int}(i:Nat) {fin:Bool},IntsAre us xs→IntsAre vs ys→fin=decide (xs.length<ys.length)→Q (et xs ys) s→KatLex prog w A true fin Q (us.zip vs) i s
 |_,_,_,_,i,_, .nil, .nil,e,h=>by subst e;exact kat_nil h
 |_,_,_,_,i,_, .nil, .cons y t r,e,h=>by subst e;exact kat_nil h
 |_,_,_,_,i,_, .cons x t r, .nil,e,h=>by subst e;exact kat_nil h
 |_,_,_,_,i,_, .cons (vs:=us) (ns:=xs) x t r, .cons (vs:=vs) (ns:=ys) y u r',e,h=>by
  refine kat_cons (wpAny_eqBool_int ?_)
  by_cases q:x=y
  ·subst q
   rw[show (x==x)=true by simp]
   refine kat_yes (vg (i+1) r r' (by rw[e];simp) ?_)
   unfold et at h
   rw[if_pos rfl] at h
   exact h
  ·rw[show (x==y)=false by simpa using q]
   unfold et at h
   rw[if_neg q] at h
   refine kat_no ?_
   by_cases hi:(i==0)=true
   ·rw[hi]
    exact oneLt_int h
   ·rw[show (i==0)=false by simpa using hi]
    exact kat_one _ _ (PyProof.Rows.lt_int h)
def TupsAt(h:Heap):List Value→List (List Int)→Prop
 |[],[]=>True
 |v::vs,k::ks=>(∃a o us m,v= .ref a∧h.get? a=some o∧o.cls= .type "tuple"∧o.data= .seq (List.toArray us) m∧IntsAre us k∧k≠[])∧TupsAt h vs ks
 |_,_=>False
theorem TupsAt.len{h:Heap}:∀{vs:List Value}{ks:List (List Int)},TupsAt h vs ks→vs.length=ks.length
 |[],[],_=>rfl
 |v::vs,k::ks,t=>by rw[List.length_cons,List.length_cons,TupsAt.len t.2]
 |[],_::_,t=>t.elim
 |_::_,[],t=>t.elim
theorem TupsAt.get{h:Heap}:∀{vs:List Value}{ks:List (List Int)}{i:Nat},TupsAt h vs ks→i<vs.length→∃a o us m,vs.getD i Value.none= .ref a∧h.get? a=some o∧o.cls= .type "tuple"∧o.data= .seq (List.toArray us) m∧IntsAre us (ks.getD i [])∧ks.getD i []≠[]
 |v::vs,k::ks,0,t,_=>t.1
 |v::vs,k::ks,i+1,t,hi=>TupsAt.get (i:=i) t.2 (by simpa using hi)
 |[],_,_,_,hi=>by simp at hi
 |_::_,[],_,t,_=>t.elim
theorem TupsAt.keep{h h':Heap}{a:Addr}(k:∀b o,b≠a→h.get? b=some o→h'.get? b=some o)(ha:∀o,h.get? a=some o→o.cls≠ .type "tuple"):∀{vs:List Value}{ks:List (List Int)},TupsAt h vs ks→TupsAt h' vs ks
 |[],[],_=>trivial
 |v::vs,x::ks,⟨⟨b,o,us,m,e1,e2,e3,e4⟩,t⟩=>⟨⟨b,o,us,m,e1,k b o (fun z=>ha o (by rw[←z];exact e2) e3) e2,e3,e4⟩,TupsAt.keep k ha t⟩
 |[],_::_,t=>t.elim
 |_::_,[],t=>t.elim
theorem n6:∀{us:List Value}{xs:List Int},IntsAre us xs→us.length=xs.length
 |_,_, .nil=>rfl
 |_,_, .cons x t r=>by rw[List.length_cons,List.length_cons,n6 r]
theorem TupsAt.firsts{M:Model}{h:Heap}:∀{vs:List Value}{ks:List (List Int)},TupsAt h vs ks→∃fs,KatTups h vs fs∧fs.length=vs.length∧∀v∈fs,Looks M h (typeOf v) (.type "int")
 |[],[],_=>⟨[],KatTups.nil,rfl,fun _ z=>by cases z⟩
 |v::vs,k::ks,⟨⟨a,o,us,m,e1,e2,e3,e4,e5,e6⟩,t⟩=>by
  obtain⟨fs,q1,q2,q3⟩:=TupsAt.firsts (M:=M) t
  subst e1
  cases e5 with
  |nil=>exact absurd rfl e6
  |cons x t r=>
   refine⟨.int x t::fs,KatTups.cons e2 e3 e4 (by simp) q1,by simp[q2],fun v hv=>?_⟩
   rcases List.mem_cons.mp hv with rfl | hv
   ·exact show Looks M h (pure (Value.type "int")) (Value.type "int") from .now
   ·exact q3 v hv
 |[],_::_,t=>t.elim
 |_::_,[],t=>t.elim
theorem asked{vs:List Value}{ks:List (List Int)}(t:TupsAt s.heap vs ks)(i j:Nat)(C:Bool→Shared→Prop)(hi:i<vs.length)(hj:j<vs.length)(h:C (et (ks.getD i []) (ks.getD j [])) s):kas_ask prog w A (tuples' true) vs i j C s:=by
 obtain⟨a,o,us,m,e1,e2,_,e4,e5,_⟩:=t.get hi
 obtain⟨a',o',Rl,m',AM,IH,_,OX,NO,_⟩:=t.get hj
 unfold kas_ask
 rw[e1,AM]
 refine kat_lt e2 e4 IH OX (vg 0 e5 NO ?_ h)
 rw[List.size_toArray,List.size_toArray,n6 e5,n6 NO]
theorem B8{α:Type}{l:List α}(h:l.Nodup){i j:Nat}(hi:i<l.length)(hj:j<l.length)(e:l[i]=l[j]):i=j:=by
 rcases Nat.lt_trichotomy i j with q | q | q
 ·exact absurd e (List.pairwise_iff_getElem.mp h i j hi hj q)
 ·exact q
 ·exact absurd e.symm (List.pairwise_iff_getElem.mp h j i hj hi q)
theorem Az{a:Addr}{c:Nat}{vs:List Value}{ks:List (List Int)}{P:PySem.Fin→Shared→Prop}(ho:s.heap.get? a=some (seqObj "list" vs.toArray c))(ht:TupsAt s.heap vs ks)(hd:ks.Nodup)(L6:vs.length<64)
 (h:∀(p:Array Nat) (h':Heap) (c':Nat),PN vs.length p→Ri (fun i j=>et (ks.getD i []) (ks.getD j [])) p vs.length→h'.get? a=some (seqObj "list" (List.toArray (p.toList.map fun i=>vs.getD i Value.none)) c')→
  (∀b o,b≠a→s.heap.get? b=some o→h'.get? b=some o)→P (.done (.ret .none)) {s with heap:=h'}):wpAny (model prog w) A (Builtin.«list.sort» ⟨[.ref a],[]⟩) P E s:=by
 have BE:sizeLine=16777216:=sizeLine_eq
 have s1:=Heap.SameBut.update s.heap a (Obj.mapSeq fun _=>(#[]:Array Value))
 obtain⟨e1,Oj⟩:∃e1,(s.heap.update a (Obj.mapSeq fun _=>(#[]:Array Value))).get? a=some (seqObj "list" #[] e1):=⟨_,get?_update_seq ho fun _=> #[]⟩
 have k1:∀b o,b≠a→s.heap.get? b=some o→(((s.heap.update a (Obj.mapSeq fun _=>(#[]:Array Value))).push (seqObj "tuple" vs.toArray 0)).push (seqObj "list" #[] 0)).get? b=some o:=fun b o hb e=>
  Heap.get?_push_of_some _ (Heap.get?_push_of_some _ ((s1.2 b hb).trans e))
 have MB:=Heap.get?_push_of_some (seqObj "list" #[] 0) (Heap.get?_push_of_some (seqObj "tuple" vs.toArray 0) Oj)
 have t3:=ht.keep k1 (fun o e z=>by rw[ho] at e;cases e;exact absurd (Value.type.inj z) (by decide))
 have fin:∀(st:SortSt) (p:Array Nat),PN vs.length p→Ri (fun i j=>et (ks.getD i []) (ks.getD j [])) p vs.length→(arrOf st).map (·.2)=List.toArray (p.toList.map fun i=>vs.getD i Value.none)→failedOf st=none→
  wpAny (model prog w) A (do
   let touched:=(←seqEpoch a) !=e1
   Builtin.List.listUpdate (.ref a) fun _=>(arrOf st).map (·.2)
   if let some e:=failedOf st then rule "list.sort.comparison-raised";throw e
   if touched then rule "list.sort.modified";raiseError "ValueError" "list modified during sort"
   ret .none) P E {s with heap:=((s.heap.update a (Obj.mapSeq fun _=>(#[]:Array Value))).push (seqObj "tuple" vs.toArray 0)).push (seqObj "list" #[] 0)}:=fun st p hp hr he hf=>by
  have hz:(List.toArray (p.toList.map fun i=>vs.getD i Value.none)).size=vs.length:=by rw[List.size_toArray,List.length_map,Array.length_toList,hp.sz]
  rw[he,hf]
  refine wpAny_bind (seqEpoch_at MB rfl (wpAny_bind (listUpdate_at MB rfl ?_ (Nat.zero_le _) (by rw[hz,BE];omega))))
  simp only[bne_self_eq_false,Bool.false_eq_true,if_false]
  have s2:=Heap.SameBut.update (((s.heap.update a (Obj.mapSeq fun _=>(#[]:Array Value))).push (seqObj "tuple" vs.toArray 0)).push (seqObj "list" #[] 0)) a (Obj.mapSeq fun _=>List.toArray (p.toList.map fun i=>vs.getD i Value.none))
  exact wpAny_pure (h p _ _ hp hr (get?_update_seq MB fun _=>List.toArray (p.toList.map fun i=>vs.getD i Value.none)) fun b o hb e=>(s2.2 b hb).trans (k1 b o hb e))
 rw[list_sort_plain]
 refine wpAny_bind (listItems_at ho rfl (wpAny_bind (listUpdate_at ho rfl (wpAny_bind (seqEpoch_at Oj rfl ?_)) (by rw[List.size_toArray,BE];omega) (Nat.zero_le _))))
 refine wpAny_bind (wpAny_newTuple (wpAny_bind (wpAny_newList (wpAny_holding ?_) (Nat.zero_le _))) (by show vs.length≤_;rw[BE];omega))
 show wpAny (model prog w) A _ P E {s with heap:=((s.heap.update a (Obj.mapSeq fun _=>(#[]:Array Value))).push (seqObj "tuple" vs.toArray 0)).push (seqObj "list" #[] 0)}
 dsimp only
 by_cases hs:vs.toArray.size<2
 ·rw[if_pos hs,if_pos hs]
  have G4:vs.length<2:=by simpa using hs
  refine wpAny_bind (wpAny_pure (wpAny_bind (wpAny_pure ?_)))
  refine fin (SortSt.mk' general' (vs.toArray.zip vs.toArray) #[] 7 none) (List.toArray (List.range vs.length)) ⟨by simp,fun i hi=>?_,fun i j hi hj _=>by omega⟩ (fun i j u3 hj=>by omega) ?_ rfl
  ·rw[eW];simp[hi]
  ·show (vs.toArray.zip vs.toArray).map (·.2)=_
   apply Array.toList_inj.mp
   refine List.ext_getElem (by simp) fun i a1 a2=>?_
   simp at a1
   simp[a1]
 ·rw[if_neg hs,if_neg hs]
  have G4:2≤vs.length:=by
   have:¬vs.length<2:=by simpa using hs
   omega
  obtain⟨fs,q1,q2,q3⟩:=t3.firsts (M:=model prog w)
  refine wpAny_bind (kat_kind q1 (by omega) q3 rfl ?_)
  have hb:Lt vs.length (fun i j=>et (ks.getD i []) (ks.getD j [])):=⟨fun i j k=>sJ _ _ _,fun i j=>ki _ _,fun i j hi hj u3=>om _ _ fun z=>u3 (by
   rw[ht.len] at hi hj
   rw[List.getD_eq_getElem?_getD,List.getD_eq_getElem?_getD,List.getElem?_eq_getElem hi,List.getElem?_eq_getElem hj] at z
   exact B8 hd hi hj (by simpa using z))⟩
  obtain⟨r1,r2⟩:=Dc hb G4
  have run:=kat_run (prog:=prog) (w:=w) (A:=A) (E:=E) (ks:=vs) (vs:=vs) (κ:=tuples' true) (Q:=fun st s'=>s'={s with heap:=((s.heap.update a (Obj.mapSeq fun _=>(#[]:Array Value))).push (seqObj "tuple" vs.toArray 0)).push (seqObj "list" #[] 0)}∧∃p,PN vs.length p∧Ri (fun i j=>et (ks.getD i []) (ks.getD j [])) p vs.length∧(arrOf st).map (·.2)=List.toArray (p.toList.map fun i=>vs.getD i Value.none)∧failedOf st=none)
   (G:=fun p s'=>s'={s with heap:=((s.heap.update a (Obj.mapSeq fun _=>(#[]:Array Value))).push (seqObj "tuple" vs.toArray 0)).push (seqObj "list" #[] 0)}∧PN vs.length p∧Ri (fun i j=>et (ks.getD i []) (ks.getD j [])) p vs.length) rfl G4 L6
   (fun p pD s' a1 a2 a3 a4=>⟨a4.1,p,a4.2.1,a4.2.2,kat_snds rfl a2,a3⟩)
   (wp_run (s:={s with heap:=((s.heap.update a (Obj.mapSeq fun _=>(#[]:Array Value))).push (seqObj "tuple" vs.toArray 0)).push (seqObj "list" #[] 0)}) (fun i j C hi hj hC=>asked t3 i j C hi hj hC) (zm (by omega)) ⟨rfl,r1,r2⟩)
  refine wpAny_bind (wpAny_mono run ?_ fun _ _ e=>e)
  rintro⟨⟨⟩,pD⟩ s' ⟨rfl,p,a1,a2,a3,a4⟩
  exact fin pD p a1 a2 a3 a4
end
section
variable{prog:Program}{w:World}{A:Around}{E:Value→Shared→Prop}{s:Shared}
theorem qS{d:Addr}{od:Obj}{es:Array DictEntry}{ep:Nat}{Q:Value→Shared→Prop}(lo:(d==sysModules)=false)(ho:s.heap.get? d=some od)(hx:od.ExactDict)(hd:od.data= .dict es ep)
 (hQ:Q (.ref s.heap.objs.size) {s with heap:=s.heap.push {cls:= .type "dict_keyiterator",data:= .fields #[.ref d, .int 0 0, .int es.size 0, .int ep 0]} }):wpAny (model prog w) A (pyIter (.ref d)) Q E s:=by
 have hT:s.TypeIs (.ref d) "dict":=⟨od,ho,hx.1⟩
 refine wpAny_pyIter_slot hT F.slot_dict_iter (wpAny_call_entry F.slot_dict_iter hT F.entry_dict_iter ?_ (F.args_dict_iter_1 _))
 unfold Builtin.«dict.__iter__» Builtin.Dict.dictSlotNone
 refine wpAny_bind (wpAny_bind (wpAny_notOrdered_dict hT ?_))
 show wpAny _ _ (pure (Value.ref d)) _ _ s
 refine wpAny_pure ?_
 show wpAny _ _ (Builtin.Dict.showsAll d>>=_) _ _ s
 unfold Builtin.Dict.showsAll
 rw[if_neg (by rw[lo];exact Bool.false_ne_true)]
 refine wpAny_bind (wpAny_pure (wpAny_bind (wpAny_dictEntries ho hd (wpAny_bind (wpAny_dictEpoch ho hd ?_)))))
 refine wpAny_bind (wpAny_newObj_type (wpAny_pure ⟨_,rfl,"dict_keyiterator",_,⟨_,Heap.get?_push_size _ rfl,rfl⟩,F.slot_dict_keyiterator_next.lookup,?_⟩))
 simpa[rawInt] using hQ
theorem vn{it d:Addr}{od:Obj}{es:Array DictEntry}{i ep:Nat}{e:DictEntry}{Q:Option Value→Shared→Prop}(hit:s.heap.IsKeyIter it d i es.size ep)(sA:s.heap.get? d=some od)(ik:od.data= .dict es ep)(hx:es[i]? =some e)
 (hQ:∀h',h'.IsKeyIter it d (i+1) es.size ep→Heap.SameBut it s.heap h'→Q (some e.key) {s with heap:=h'}):wpAny (model prog w) A (pyNext (.ref it)) Q E s:=by
 obtain⟨o,ho,hc,hd⟩:=id hit
 have eO:i<es.size:=(Array.getElem?_eq_some_iff.mp hx).1
 have sC:Builtin.Dict_items.ownsTuple "dict_keyiterator"=false:=by decide
 unfold pyNext
 refine wpAny_bind (wpAny_attempt (wpAny_callSpecial?_slot (name:=Str.ofString "__next__") hit.typeIs F.slot_dict_keyiterator_next
  (wpAny_call_entry F.slot_dict_keyiterator_next hit.typeIs F.entry_dict_keyiterator_next ?_ (F.args_dict_keyiterator_next_1 _))))
 refine wpAny_bind (wpAny_pure (wpAny_bind (wpAny_bind ?_)))
 first | refine wpAny_bind (wpAny_typeNameOfWhole_keyiter hit.typeIs (wpAny_pure ?_)) | refine wpAny_bind (wpAny_typeNameOf_keyiter hit.typeIs (wpAny_pure ?_))
 refine wpAny_bind (wpAny_fieldsOf ho hd ?_)
 simp only[sC,Bool.false_eq_true,if_false]
 show wpAny _ _ (if (Value.ref d==Value.none)=true then _ else _) _ _ s
 rw[if_neg (show¬((Value.ref d==Value.none)=true) from Bool.false_ne_true)]
 refine wpAny_bind (wpAny_pure (wpAny_bind (wpAny_dictEntries sA ik ?_)))
 rw[if_neg (by simp)]
 refine wpAny_bind (wpAny_pure (wpAny_bind (wpAny_dictEpoch sA ik ?_)))
 rw[if_neg (by simp)]
 refine wpAny_pure ?_
 simp only[show¬((i:Int)<0) from by omega,if_false,Int.toNat_natCast,hx]
 refine wpAny_bind ?_
 first | refine wpAny_bind (wpAny_typeNameOfWhole_keyiter hit.typeIs (wpAny_pure ?_)) | refine wpAny_bind (wpAny_typeNameOf_keyiter hit.typeIs (wpAny_pure ?_))
 refine wpAny_bind (wpAny_isOneOf_keyiter hit.typeIs ?_)
 show wpAny _ _ (setField (.ref it) 1 (rawInt ((i:Int)+1))>>=_) _ _ s
 refine wpAny_bind (wpAny_setField ho hd (by simp) ?_)
 have D8:(s.heap.update it (Obj.mapFields (·.setIfInBounds 1 (rawInt ((i:Int)+1))))).IsKeyIter it d (i+1) es.size ep:=
  ⟨_,Heap.get?_update_self _ ho (Obj.isFreed_of_fields (Obj.data_mapFields hd _)),(Obj.cls_mapFields ..).trans hc,by rw[Obj.data_mapFields hd];simp[rawInt]⟩
 refine wpAny_bind (wpAny_holding (wpAny_bind (wpAny_isOneOf_keyiter (s:={s with heap:=s.heap.update it (Obj.mapFields (·.setIfInBounds 1 (rawInt ((i:Int)+1))))}) D8.typeIs ?_)))
 show wpAny _ _ (pure e.key) _ _ _
 exact wpAny_pure (wpAny_pure ⟨_,rfl,wpAny_pure (hQ _ D8 (Heap.SameBut.update ..))⟩)
theorem qG{it d:Addr}{od:Obj}{es:Array DictEntry}{ep i:Nat}{Q:Option Value→Shared→Prop}(hh:A.handled=none)(hit:s.heap.IsKeyIter it d i es.size ep)(hi:es.size≤i)(sA:s.heap.get? d=some od)(ik:od.data= .dict es ep)
 (hQ:∀h',Heap.ExtBut it s.heap h'→Q none {s with heap:=h'}):wpAny (model prog w) A (pyNext (.ref it)) Q E s:=by
 obtain⟨o,ho,hc,hd⟩:=id hit
 have sC:Builtin.Dict_items.ownsTuple "dict_keyiterator"=false:=by decide
 unfold pyNext
 refine wpAny_bind (wpAny_attempt (wpAny_callSpecial?_slot (name:=Str.ofString "__next__") hit.typeIs F.slot_dict_keyiterator_next
  (wpAny_call_entry F.slot_dict_keyiterator_next hit.typeIs F.entry_dict_keyiterator_next ?_ (F.args_dict_keyiterator_next_1 _))))
 refine wpAny_bind (wpAny_pure (wpAny_bind (wpAny_bind ?_)))
 first | refine wpAny_bind (wpAny_typeNameOfWhole_keyiter hit.typeIs (wpAny_pure ?_)) | refine wpAny_bind (wpAny_typeNameOf_keyiter hit.typeIs (wpAny_pure ?_))
 refine wpAny_bind (wpAny_fieldsOf ho hd ?_)
 simp only[sC,Bool.false_eq_true,if_false]
 show wpAny _ _ (if (Value.ref d==Value.none)=true then _ else _) _ _ s
 rw[if_neg (show¬((Value.ref d==Value.none)=true) from Bool.false_ne_true)]
 refine wpAny_bind (wpAny_pure (wpAny_bind (wpAny_dictEntries sA ik ?_)))
 rw[if_neg (by simp)]
 refine wpAny_bind (wpAny_pure (wpAny_bind (wpAny_dictEpoch sA ik ?_)))
 rw[if_neg (by simp)]
 refine wpAny_pure ?_
 simp only[show¬((i:Int)<0) from by omega,if_false,Int.toNat_natCast,Array.getElem?_eq_none hi]
 refine wpAny_bind ?_
 first | refine wpAny_bind (wpAny_typeNameOfWhole_keyiter hit.typeIs (wpAny_pure ?_)) | refine wpAny_bind (wpAny_typeNameOf_keyiter hit.typeIs (wpAny_pure ?_))
 show wpAny _ _ (setField (.ref it) 0 .none>>=_) _ _ s
 refine wpAny_bind (wpAny_setField ho hd (by simp) ?_)
 show wpAny _ _ (newExc (.type "StopIteration") []>>=_) _ _ _
 refine wpAny_bind ?_
 simp only[newExc,newTuple]
 refine wpAny_bind (wpAny_newObj_type ?_ (by size_fits))
 refine wpAny_bind (m:=firstArgMember _ _) (wpAny_of_eq (a:=Value.none) (by first | rfl | (simp only[firstArgMember];rfl)) ?_)
 refine wpAny_newObj_type ?_ (by size_fits)
 simp only[raiseNew]
 refine wpAny_bind (wpAny_handled ?_)
 rw[show A.in1.handled=none from hh]
 refine wpAny_bind (wpAny_pure (wpAny_throw ?_))
 refine wpAny_bind (wpAny_isInstance (T:="StopIteration") (b:=true) ⟨_,Heap.get?_push_size _ rfl,rfl⟩ isSubtype_stop ?_)
 exact wpAny_pure (hQ _ (((Heap.SameBut.update ..).extBut.push _).push _))
theorem Bf{it d:Addr}{od:Obj}{es:Array DictEntry}{ep:Nat}{Q:Option Value→Shared→Prop}(hh:A.handled=none)(hit:s.heap.IsKeyIter it d es.size es.size ep)(sA:s.heap.get? d=some od)(ik:od.data= .dict es ep)
 (hQ:∀h',Heap.ExtBut it s.heap h'→Q none {s with heap:=h'}):wpAny (model prog w) A (pyNext (.ref it)) Q E s:=qG hh hit (Nat.le_refl _) sA ik hQ
def FO(es:Array DictEntry):Nat→Value→Prop:=fun i v=>∃e,es[i]? =some e∧v=e.key
theorem yc(hh:A.handled=none)(I d:Addr)(il:d≠I){od:Obj}{es:Array DictEntry}{ep:Nat}(ik:od.data= .dict es ep):
 Walks prog w A I [I,d] [I] es.size (FO es) (fun i h=>h.IsKeyIter I d i es.size ep∧h.get? d=some od) where
 sub:=fun b hb=>by simp at hb;simp[hb]
 frame:=fun _ _ _ st hk=>⟨st.1.at fun o e=>hk I (by simp) o e,hk d (by simp) _ st.2⟩
 item:=fun i s Q E hi st hQ=>by
  have hx:es[i]? =some es[i]:=Array.getElem?_eq_getElem hi
  exact vn st.1 st.2 ik hx fun h' D8 w_=>hQ _ h' s.toks ⟨_,hx,rfl⟩ ⟨D8,(w_.2 d il).trans st.2⟩ fun b o hb e=>w_.extBut b o (fun h=>hb (by simp[h])) e
 done:=fun s Q E st hQ=>Bf hh st.1 st.2 ik fun h' Pp=>hQ h' s.toks fun b o hb e=>Pp b o (fun h=>hb (by simp[h])) e
 self:=fun _ _ _ _ st hQ=>wpAny_pyIter_keyiter st.1 hQ
theorem Dd{d:Addr}{od:Obj}{es:Array DictEntry}{ep:Nat}(lo:(d==sysModules)=false)(hx:od.ExactDict)(ik:od.data= .dict es ep):KdlSrc prog w "dict" d d es.size (FO es) (fun h=>h.get? d=some od) where
 type:=fun _ hm=>⟨od,hm,hx.1⟩
 there:=fun _ hm=>⟨Heap.lt_size hm,Heap.lt_size hm⟩
 keep:=fun _ _ hm hk=>hk d (.inl rfl) od hm
 notList:=by decide
 notTuple:=by decide
 hint:=fun _ _ s _ hm hq=>kdl_hint_dict ⟨od,hm,hx.1⟩ hq
 iter:=fun _ _ hh hm=>⟨_,_,(fun _ _ hq=>qS lo hm hx ik hq),yc hh _ d (Nat.ne_of_lt (Heap.lt_size hm)) ik,⟨⟨_,Heap.get?_push_size _ rfl,rfl,rfl⟩,Heap.get?_push_of_some _ hm⟩⟩
end
end L3
namespace L3
open PySem
def insI(k:List Int):List (List Int)→List (List Int)
 |[]=>[k]
 |x::r=>if et k x then k::x::r else x::insI k r
def sortI:List (List Int)→List (List Int)
 |[]=>[]
 |k::r=>insI k (sortI r)
def wH(l:List (List Int)):Prop:=l.Pairwise fun a b=>et a b=true
theorem n5{k x:List Int}:∀{l:List (List Int)},x∈insI k l↔x=k∨x∈l
 |[]=>by simp[insI]
 |y::r=>by
  unfold insI
  split
  ·simp
  ·rw[List.mem_cons,n5,List.mem_cons]
   constructor
   ·rintro(h | h | h)<;>simp[h]
   ·rintro(h | h | h)<;>simp[h]
theorem qM{k:List Int}:∀{l:List (List Int)},wH l→k∉l→wH (insI k l)
 |[],_,_=>List.pairwise_singleton _ _
 |x::r,h,hk=>by
  have h:=List.pairwise_cons.mp h
  unfold insI
  split
  ·rename_i q
   refine List.pairwise_cons.mpr ⟨fun y hy=>?_,List.pairwise_cons.mpr h⟩
   rcases List.mem_cons.mp hy with rfl | hy
   ·exact q
   ·exact sJ _ _ _ q (h.1 y hy)
  ·rename_i q
   have hx:et x k=true:=by
    rcases om k x (fun z=>hk (by rw[z];exact List.mem_cons_self ..)) with z | z
    ·exact absurd z q
    ·exact z
   refine List.pairwise_cons.mpr ⟨fun y hy=>?_,qM h.2 fun z=>hk (List.mem_cons_of_mem _ z)⟩
   rcases n5.mp hy with rfl | hy
   ·exact hx
   ·exact h.1 y hy
theorem gJ{x:List Int}:∀{l:List (List Int)},x∈sortI l↔x∈l
 |[]=>Iff.rfl
 |k::r=>by unfold sortI;rw[n5,gJ,List.mem_cons]
theorem j4:∀{l:List (List Int)},l.Nodup→wH (sortI l)
 |[],_=>List.Pairwise.nil
 |k::r,h=>by
  have h:=List.nodup_cons.mp h
  exact qM (j4 h.2) fun z=>h.1 (gJ.mp z)
theorem pf:∀{a b:List (List Int)},wH a→wH b→(∀x,x∈a↔x∈b)→a=b
 |[],[],_,_,_=>rfl
 |[],y::b,_,_,h=>by have:=(h y).mpr (List.mem_cons_self ..);cases this
 |x::a,[],_,_,h=>by have:=(h x).mp (List.mem_cons_self ..);cases this
 |x::a,y::b,ha,hb,h=>by
  have ha:=List.pairwise_cons.mp ha
  have hb:=List.pairwise_cons.mp hb
  have e:x=y:=by
   rcases List.mem_cons.mp ((h x).mp (List.mem_cons_self ..)) with q | q
   ·exact q
   ·rcases List.mem_cons.mp ((h y).mpr (List.mem_cons_self ..)) with p | p
    ·exact p.symm
    ·have z1:=hb.1 x q
     have z2:=ha.1 y p
     rw[ki _ _ z1] at z2
     cases z2
  subst e
  have Oy:∀k,et k k≠true:=fun k z=>by have:=ki _ _ z;rw[z] at this;cases this
  rw[pf ha.2 hb.2 fun z=>?_]
  constructor
  ·intro hz
   rcases List.mem_cons.mp ((h z).mp (List.mem_cons_of_mem _ hz)) with q | q
   ·subst q;exact absurd (ha.1 z hz) (Oy z)
   ·exact q
  ·intro hz
   rcases List.mem_cons.mp ((h z).mpr (List.mem_cons_of_mem _ hz)) with q | q
   ·subst q;exact absurd (hb.1 z hz) (Oy z)
   ·exact q
theorem xK:∀(n:Nat) (l:List Nat),l.Nodup→(∀x∈l,x<n)→l.length=n→∀k,k<n→k∈l
 |0,_,_,_,_,k,hk=>by omega
 |n+1,l,hd,hl,hn,k,hk=>by
  by_cases h:n∈l
  ·by_cases e:k=n
   ·subst e;exact h
   ·refine List.mem_of_mem_erase (xK n (l.erase n) (hd.erase n) (fun x hx=>?_) (by rw[List.length_erase_of_mem h,hn];rfl) k (by omega))
    have hx:=hd.mem_erase_iff.mp hx
    have:=hl x hx.2
    have:=hx.1
    omega
  ·cases l with
   |nil=>simp at hn
   |cons x r=>
    have hd:=List.nodup_cons.mp hd
    have lt:∀y∈x::r,y<n:=fun y hy=>by
     have:=hl y hy
     have:y≠n:=fun z=>h (by rw[←z];exact hy)
     omega
    exact absurd (xK n r hd.2 (fun y hy=>lt y (List.mem_cons_of_mem _ hy)) (by simpa using hn) x (lt x (List.mem_cons_self ..))) hd.1
theorem AA{ks:List (List Int)}{p:Array Nat}(hd:ks.Nodup)(P:PN ks.length p)(R:Ri (fun i j=>et (ks.getD i []) (ks.getD j [])) p ks.length):(p.toList.map fun i=>ks.getD i [])=sortI ks:=by
 have hsz:p.toList.length=ks.length:=by rw[Array.length_toList];exact P.sz
 have wB:∀i (h:i<p.toList.length),p.toList[i]=at' p i:=fun i h=>by
  have h':i<p.size:=by rw[Array.length_toList] at h;exact h
  rw[eW,Array.getElem?_eq_getElem h']
  simp
 refine pf ?_ (j4 hd) fun x=>?_
 ·refine List.pairwise_iff_getElem.mpr fun i j hi hj u3=>?_
  rw[List.length_map] at hi hj
  rw[List.getElem_map,List.getElem_map,wB i hi,wB j hj]
  exact R i j u3 (by omega)
 ·rw[gJ]
  constructor
  ·intro hx
   obtain⟨i,hi,rfl⟩:=List.mem_map.mp hx
   obtain⟨j,hj,rfl⟩:=List.mem_iff_getElem.mp hi
   have:=P.lt j (by omega)
   rw[wB j hj,List.getD_eq_getElem?_getD,List.getElem?_eq_getElem this]
   exact List.getElem_mem this
  ·intro hx
   obtain⟨k,hk,rfl⟩:=List.mem_iff_getElem.mp hx
   have JS:k∈p.toList:=by
    have hn:p.toList.Nodup:=List.pairwise_iff_getElem.mpr fun i j hi hj u3 z=>by
     rw[wB i hi,wB j hj] at z
     have:=P.inj i j (by omega) (by omega) z
     omega
    exact xK ks.length p.toList hn (fun x hx=>by
     obtain⟨j,hj,rfl⟩:=List.mem_iff_getElem.mp hx
     rw[wB j hj]
     exact P.lt j (by omega)) hsz k hk
   refine List.mem_map.mpr ⟨k,JS,?_⟩
   rw[List.getD_eq_getElem?_getD,List.getElem?_eq_getElem hk]
   rfl
end L3
namespace L3
open PySem PySem.Spec L2 SeqAt HT
open PyProof.Rows hiding St
def tupI(k:List Int):D:= .tup (k.map D.int)
def Gi:D→Option (List Int)
 | .tup ds=>nums ds
 |_=>none
def jU:List D→Option (List (List Int))
 |[]=>some []
 |d::ds=>match Gi d,jU ds with
  |some k,some ks=>some (k::ks)
  |_,_=>none
def iN(ks:List (List Int)):Bool:=decide ks.Nodup&&decide (ks.length<64)&&ks.all fun k=>!k.isEmpty
def dJ(H:Hp):List V→List (List Int)→Prop:=Paired fun v k=>∃a,v= .ref a∧H a=some (.tup (k.map V.int))
theorem qO{K:W.Frag}{F H:Hp}(hs:Same F H):∀{ds:List D}{vs:List V}{ks:List (List Int)},jU ds=some ks→DenL K F ds vs→dJ H vs ks∧dJ F vs ks
 |[],_,_,e,h=>by cases e;cases (show _=_ from h);exact⟨.nil, .nil⟩
 |d::ds,_,_,e,⟨v,r,h1,h2,h3⟩=>by
  subst h1
  unfold jU at e
  split at e
  ·rename_i k ks e1 e2
   cases e
   obtain⟨QF,QG⟩:=qO hs e2 h3
   cases d with
   |tup es=>
    obtain⟨a,ws,rfl,k2,k3,_⟩:=h2
    have:=iB e1 k3
    subst this
    exact⟨.cons ⟨a,rfl,hs _ _ k2⟩ QF, .cons ⟨a,rfl,k2⟩ QG⟩
   |_=>cases e1
  ·cases e
theorem vO{K:W.Frag}{F:Hp}:∀{ws:List V}{ks:List (List Int)},dJ F ws ks→(∀k∈ks,k.length≤lim)→DenL K F (ks.map tupI) ws
 |_,_, .nil,_=>rfl
 |_,_, .cons (b:=k) h t,hl=>by
  obtain⟨a,rfl,h⟩:=h
  exact .cons ⟨a,_,rfl,h,DenL.ints k,by rw[List.length_map];exact hl k (List.mem_cons_self ..)⟩ (vO t fun k hk=>hl k (List.mem_cons_of_mem _ hk))
theorem rJ{X:Cx}{pins:List (Addr×Obj)}{σ:St}{H:Hp}{s:Shared}(I:Inv X pins σ H s):∀{vs:List V}{aB:List Value}{ks:List (List Int)},dJ H vs ks→Vals vs aB→(∀k∈ks,k≠[])→TupsAt s.heap aB ks
 |_,_,_, .nil,r,_=>by cases r;exact trivial
 |_,_,_, .cons (b:=k) h t,r,hn=>by
  obtain⟨a,rfl,h⟩:=h
  cases r with
  |cons r1 r2=>
   cases (show _=_ from r1)
   obtain⟨us,ru,pt,_⟩:=I.tuple (SqT.of (K:=X.K) h)
   obtain⟨o,q1,q2,m,q3⟩:=pt
   exact⟨⟨a,o,us,m,rfl,q1,q2,q3,intsAre_of ru,hn k (List.mem_cons_self ..)⟩,rJ I t r2 fun k hk=>hn k (List.mem_cons_of_mem _ hk)⟩
theorem kJ{H:Hp}:∀{vs:List V}{ks:List (List Int)}{i:Nat},dJ H vs ks→i<vs.length→∃a,vs.getD i .non= .ref a∧H a=some (.tup ((ks.getD i []).map V.int))
 |_,_,i, .nil,hi=>by simp at hi
 |_,_,0, .cons h t,_=>h
 |_,_,i+1, .cons h t,hi=>kJ (i:=i) t (by simpa using hi)
theorem kK{H:Hp}:∀{vs:List V}{ks:List (List Int)},dJ H vs ks→vs.length=ks.length
 |_,_, .nil=>rfl
 |_,_, .cons h t=>by rw[List.length_cons,List.length_cons,kK t]
theorem rH{H:Hp}{vs:List V}{ks:List (List Int)}(h:dJ H vs ks):∀{is:List Nat},(∀i∈is,i<vs.length)→dJ H (is.map fun i=>vs.getD i .non) (is.map fun i=>ks.getD i [])
 |[],_=> .nil
 |i::is,hi=> .cons (kJ h (hi i (List.mem_cons_self ..))) (rH h fun j hj=>hi j (List.mem_cons_of_mem _ hj))
theorem gK:∀{vs:List V}{us:List Value}(i:Nat),Vals vs us→i<vs.length→RelV (vs.getD i .non) (us.getD i Value.none)
 |_,_,i, .nil,hi=>by simp at hi
 |_,_,0, .cons h t,_=>h
 |_,_,i+1, .cons h t,hi=>gK i t (by simpa using hi)
theorem rV{vs:List V}{us:List Value}(h:Vals vs us):∀{is:List Nat},(∀i∈is,i<vs.length)→Vals (is.map fun i=>vs.getD i .non) (is.map fun i=>us.getD i Value.none)
 |[],_=> .nil
 |i::is,hi=> .cons (gK i h (hi i (List.mem_cons_self ..))) (rV h fun j hj=>hi j (List.mem_cons_of_mem _ hj))
section
variable{X:Cx}{Xw:Nat→Hp→Prop}{e:Expr}{δs:DA}{pos p:Pos}
theorem rP:∀l:List (List Int),(sortI l).length=l.length
 |[]=>rfl
 |k::r=>by
  have ins:∀(k:List Int) (l:List (List Int)),(insI k l).length=l.length+1:=by
   intro k l
   induction l with
   |nil=>rfl
   |cons x l ih=>
    unfold insI
    split
    ·rfl
    ·rw[List.length_cons,ih,List.length_cons]
  unfold sortI
  rw[ins,rP r,List.length_cons]
end
def oe(k:List Int):List Key:=k.map Sum.inl
def KP:List V→Hp→VK→Prop:=fun xs H Q=>∃p aw ks,xs=[.ref p]∧Rd H p (.dT aw)∧aw.map (·.1)=ks.map oe∧iN ks=true∧∀(q:Addr) (ws:List V),H q=none→dJ H ws (sortI ks)→Q (.ref q) (upd H q (.lst ws))
theorem qU{H:Hp}:∀{aw:List (List Key×V)}{xs:List (List Key×Addr×Value)}{ks:List (List Int)},Paired (fun (p:List Key×V) (q:List Key×Addr×Value)=>p.1=q.1∧H q.2.1=some (.tup (p.1.map kV))∧RelV p.2 q.2.2) aw xs→
 aw.map (·.1)=ks.map oe→dJ H (xs.map fun x=>V.ref x.2.1) ks
 |_,_,[], .nil,_=> .nil
 |_,_,_::_, .nil,e=>by simp at e
 |_,_,[], .cons h t,e=>by simp at e
 |_,_,k::ks, .cons h t,e=>by
  rw[List.map_cons,List.map_cons] at e
  injection e with e1 e2
  refine .cons ⟨_,rfl,?_⟩ (qU t e2)
  have hk:(oe k).map kV=k.map V.int:=by unfold oe;rw[List.map_map];rfl
  rw[h.2.1,e1,hk]
section
variable{X:Cx}{Xw:Nat→Hp→Prop}{e:Expr}{δs:DA}{pos p:Pos}
theorem zx(hc:X.calm=true):CallR X (.builtin "sorted") KP:=by
 intro pins s σ H xs us Q I r h
 obtain⟨a,aw,ks,rfl,hH,Gd,hk,q⟩:=h
 obtain⟨u,rfl,r1⟩:=r.one
 cases (show u=_ from r1)
 obtain⟨z,lo,xs,rel,o,es,ep,g1,g2,g3,g4,g5⟩:=(show ObjOk X.prog X.w H s.heap a (.dT aw) from hH.ok I.hok)
 unfold iN at hk
 rw[Bool.and_eq_true,Bool.and_eq_true] at hk
 have hd:ks.Nodup:=of_decide_eq_true hk.1.1
 have L6:ks.length<64:=of_decide_eq_true hk.1.2
 have il:∀k∈ks,k≠[]:=fun k Gb z=>by have:=List.all_eq_true.mp hk.2 k Gb;rw[z] at this;cases this
 have hr:=qU rel Gd
 have Gf:=kK hr
 rw[List.length_map] at Gf
 have Oc:es.size=xs.length:=by rw[←Array.length_toList,g4,List.length_map]
 have BE:sizeLine=16777216:=sizeLine_eq
 refine Calls.call_function_entry kind_sorted plain_sorted entry_sorted (args_sorted1 _) ?_
 unfold Builtin.«sorted»
 refine wpAny_bind (m:=checkCount "sorted" 1 1 _) (wpAny_pure (wpAny_bind (PySem.W.kdu_collect (A:=X.A.in1) (Dd lo g2 g3) (I.ok.hd hc) g1 (by rw[Oc,BE];omega) fun h1 tk acc J9 Bx=>?_)))
 have Jx:acc.toList.length=xs.length:=by rw[Array.length_toList,←Oc];exact Bx.1
 have I1:Inv X pins σ H {s with heap:=h1,toks:=tk}:=I.kept (t':=tk) fun b ob e=>J9 b ob e
 have rv:Vals (xs.map fun x=>V.ref x.2.1) acc.toList:=by
  have ext:∀{vs:List V}{us:List Value},vs.length=us.length→(∀(i:Nat) (v:V) (u:Value),vs[i]? =some v→us[i]? =some u→RelV v u)→Vals vs us:=by
   intro vs
   induction vs with
   |nil=>intro us h _;cases us with | nil=>exact .nil | cons _ _=>simp at h
   |cons v vs ih=>
    intro us h hh
    cases us with
    |nil=>simp at h
    |cons u us=>exact .cons (hh 0 v u rfl rfl) (ih (by simpa using h) fun i v u h1 h2=>hh (i+1) v u h1 h2)
  refine ext (by rw[List.length_map,Jx]) fun i v u e1 e2=>?_
  rw[Array.getElem?_toList] at e2
  obtain⟨en,q1,q2⟩:=Bx.2 i u e2
  rw[←Array.getElem?_toList,g4,List.getElem?_map] at q1
  rw[List.getElem?_map] at e1
  cases w:xs[i]? with
  |none=>rw[w] at e1;cases e1
  |some x=>
   rw[w] at e1 q1
   cases e1
   cases q1
   exact q2
 have ht:=rJ I1 hr rv il
 refine wpAny_bind (wpAny_newList ?_ (by rw[BE];omega))
 have Lw:(h1.push (seqObj "list" acc.toList.toArray 0)).get? h1.objs.size=some (seqObj "list" acc.toList.toArray 0):=Heap.get?_push_size _ rfl
 refine wpAny_bind (wpAny_holding (wpAny_call_entry slot_list_sort ⟨_,Lw,rfl⟩ entry_list_sort (Az (s:={s with heap:=h1.push (seqObj "list" acc.toList.toArray 0),toks:=tk}) Lw
  (ht.keep (a:=h1.objs.size) (fun b o _ e=>Heap.get?_push_of_some _ e) (fun o e=>absurd (Heap.lt_size e) (Nat.lt_irrefl _))) hd (by omega) fun P h' c' hP hR Mn JJ=>?_) (args_list_sort _)))
 have Ju:∀i∈P.toList,i<(xs.map fun x=>V.ref x.2.1).length:=fun i hi=>by
  obtain⟨j,hj,rfl⟩:=List.mem_iff_getElem.mp hi
  have h':j<P.size:=by rw[Array.length_toList] at hj;exact hj
  have:=hP.lt j (by rw[hP.sz] at h';exact h')
  rw[eW,Array.getElem?_eq_getElem h'] at this
  have e:P.toList[j]=P[j]:=by simp
  rw[e,List.length_map]
  have:P[j]<acc.toList.length:=this
  omega
 have Pc:PN ks.length P:=by rw[←Gf,←Jx];exact hP
 have Pe:Ri (fun i j=>et (ks.getD i []) (ks.getD j [])) P ks.length:=by rw[←Gf,←Jx];exact hR
 have LA:=AA hd Pc Pe
 have Ou:=rH hr Ju
 rw[LA] at Ou
 refine⟨_,rfl,wpAny_pure ⟨_,rfl,⟨.ref h1.objs.size,_,I1.laid (a:=h1.objs.size) (t':=tk) (o:= .lst (P.toList.map fun i=>(xs.map fun x=>V.ref x.2.1).getD i .non)) (fun b ob e=>JJ b ob (Nat.ne_of_lt (Heap.lt_size e)) (Heap.get?_push_of_some _ e)) (Nat.le_refl _) ?_,rfl,q _ _ (I1.hok.fresh (Nat.le_refl _)) Ou⟩⟩⟩
 exact⟨by rw[List.length_map,Array.length_toList,hP.sz,BE];omega,_,c',rV rv Ju,Mn⟩
theorem rG{F F':Hp}(e:Same F F'):∀{ws:List V}{ks:List (List Int)},dJ F ws ks→dJ F' ws ks
 |_,_, .nil=> .nil
 |_,_, .cons ⟨b,q1,q2⟩ t=> .cons ⟨b,q1,e _ _ q2⟩ (rG e t)
theorem vP{F H:Hp}(hs:Same F H):∀{ws:List V}{ks:List (List Int)},dJ H ws ks→∃F',Ext F H F' H∧dJ F' ws ks
 |_,_, .nil=>⟨F,Ext.refl hs, .nil⟩
 |_,_, .cons h t=>by
  obtain⟨a,rfl,h⟩:=h
  obtain⟨F1,e1,r1⟩:=vP hs t
  have e2:=Ext.tup (F:=F1) e1.fh h
  refine⟨_,e1.trans e2, .cons ⟨a,rfl,aE⟩ ?_⟩
  exact rG e2.ff r1
def qN:List Key→Option (List Int)
 |[]=>some []
 | .inl i::r=>(qN r).map (i:: ·)
 |_=>none
def fG:List (List Key)→Option (List (List Int))
 |[]=>some []
 |k::r=>match qN k,fG r with
  |some x,some xs=>some (x::xs)
  |_,_=>none
theorem u7:∀{k:List Key}{x:List Int},qN k=some x→k=oe x
 |[],_,e=>by cases e;rfl
 | .inl i::r,_,e=>by
   unfold qN at e
   cases q:qN r with
   |none=>rw[q] at e;cases e
   |some y=>rw[q] at e;cases e;rw[u7 q];rfl
 | .inr _::r,_,e=>by cases e
theorem lC:∀{kk:List (List Key)}{ks:List (List Int)},fG kk=some ks→kk=ks.map oe
 |[],_,e=>by cases e;rfl
 |k::r,_,e=>by
  unfold fG at e
  split at e
  ·rename_i x xs e1 e2
   cases e
   rw[List.map_cons,←u7 e1,←lC e2]
  ·cases e
def rQ:List D→M D
 |[.dct kk ds]=>match fG kk with
  |some ks=>if iN ks&&ks.all (fun k=>decide (k.length≤lim)) then M.ret (.lst ((sortI ks).map tupI)) else M.stuck
  |none=>M.stuck
 |_=>M.stuck
theorem ju{α β:Type}:∀{a:List α}{b:List β},a.length=b.length→(a.zip b).map (·.1)=a
 |[],[],_=>rfl
 |x::a,y::b,h=>by rw[List.zip_cons_cons,List.map_cons,ju (by simpa using h)]
 |[],_::_,h=>by simp at h
 |_::_,[],h=>by simp at h
theorem EW(hc:X.calm=true)(hg:Gl X "sorted")(hm:X.mg "sorted"=none)(hb:bootBuiltins "sorted"=some (.builtin "sorted"))(ha:lg X Xw [e] δs)(he:starEach [e] X.env=[(false,eval e X.env)]:=by rfl):PD X Xw (.Call (.Name "sorted" p) [e] [] pos) (dA rQ δs):=
 d5 (zx hc) (fun Xw F H vs ds Q s h w=>by
  unfold rQ at w
  split at w
  ·rename_i kk ds
   obtain⟨v,rfl,h1⟩:=h.one
   obtain⟨a,ob,ws,rfl,h2,h3,h4,h5⟩:=h1
   split at w
   ·rename_i ks Mv
    split at w
    ·rename_i hok
     rw[Bool.and_eq_true] at hok
     have hl:∀k∈ks,k.length≤lim:=fun k hk=>of_decide_eq_true (List.all_eq_true.mp hok.2 k hk)
     have L6:ks.length<64:=by
      have:=hok.1
      unfold iN at this
      rw[Bool.and_eq_true,Bool.and_eq_true] at this
      exact of_decide_eq_true this.1.2
     refine⟨a,_,ks,rfl, .inr ⟨ob,s _ _ h2⟩,by rw[ju (by rw[h4];exact h3.len),lC Mv],hok.1,fun q us hq hr=>?_⟩
     obtain⟨F1,e1,r1⟩:=vP s hr
     have e2:=Ext.lay (o:= .lst us) e1.fh hq
     exact WP.fin w (e1.trans e2) ⟨q,_,rfl,aE,DenL.mono e2.ff (vO r1 fun k hk=>hl k (gJ.mp hk)),by rw[List.length_map,rP];unfold lim;omega⟩
    ·exact w.elim
   ·exact w.elim
  ·exact w.elim) hg hm hb ha (by decide) (by decide) he rfl
end
end L3
namespace L3
open PySem PySem.Spec L2
open PyProof.Rows hiding St
def orM{α:Type}(a b:M α):M α:=match a with
 |none=>b
 |some r=>some r
def Hf(a b:DA):DA:=fun ρ=>orM (a ρ) (b ρ)
section
variable{X:Cx}{Xw:Nat→Hp→Prop}{e tg:Expr}{es:List Expr}{δ δ':DE}{δi δi' δs:DA}{τ:DT}
theorem EY(h:wA X Xw tg e δi)(h':wA X Xw tg e δi'):wA X Xw tg e (Hf δi δi'):=fun pins s σ H Q I ⟨F,ρ,S,w⟩=>by
 unfold Hf orM at w
 cases q:δi ρ with
 |none=>rw[q] at w;exact h' pins s σ H Q I ⟨F,ρ,S,w⟩
 |some r=>rw[q] at w;exact h pins s σ H Q I ⟨F,ρ,S,by rw[q];exact w⟩
theorem gE{st:Stmt}:gL X Xw st (fun _=>M.stuck):=fun F₀ H₀ pins s σ H D I ⟨F,ρ,S,w⟩=>w.elim
end
def fgt:List Nat→a5→a5
 |[],ρ=>ρ
 |i::is,ρ=>fgt is (ρ.set i none)
def Ko(f:a5→a5):Out→M Out
 | .nx ρ=>M.ret (.nx (f ρ))
 | .rt d=>M.ret (.rt d)
def cI(is:List Nat)(τ:DS):DS:=fun ρ=>τ ρ>>=Ko (fgt is)
theorem StOk.fgt1{K:W.Frag}{F₀ H₀ F H:Hp}{σ:St}{ρ:a5}(s:StOk K F₀ H₀ F H σ ρ)(i:Nat):StOk K F₀ H₀ F H σ (ρ.set i none):=by
 have get:∀(j:Nat) (sl:Sl),(ρ.set i none)[j]? =some (some sl)→ρ[j]? =some (some sl):=fun j sl e=>by
  by_cases hj:j=i
  ·subst hj
   by_cases hl:j<ρ.length
   ·rw[List.getElem?_set_self hl] at e;cases e
   ·rw[List.getElem?_eq_none (by simpa using hl)] at e;cases e
  ·rw[List.getElem?_set_ne (Ne.symm hj)] at e;exact e
 exact⟨s.ext,⟨s.st.fh,fun j sl e=>s.st.den j sl (get j sl e)⟩,by simp[s.len],fun j c a e e'=>s.own j c a (get j _ e) e',fun j k c c' a e1 e2 e3 e4=>s.sep j k c c' a (get j _ e1) (get k _ e2) e3 e4⟩
theorem StOk.fgt{K:W.Frag}{F₀ H₀ F H:Hp}{σ:St}:∀(is:List Nat) {ρ:a5},StOk K F₀ H₀ F H σ ρ→StOk K F₀ H₀ F H σ (L3.fgt is ρ)
 |[],_,s=>s
 |i::is,_,s=>StOk.fgt is (s.fgt1 i)
theorem WPS.fgt{K:W.Frag}{Xw:Nat→Hp→Prop}{F₀ H₀:Hp}{is:List Nat}{m:M Out}{Dn:Ends}(w:WPS K Xw F₀ H₀ (m>>=Ko (L3.fgt is)) Dn):WPS K Xw F₀ H₀ m Dn:=by
 match m,w with
 |none,w=>exact w
 |some (.ok (.nx ρ)),w=>exact fun σ F H s=>w σ F H (s.fgt is)
 |some (.ok (.rt d)),w=>exact w
 |some (.ex n),w=>exact w
section
variable{X:Cx}{Xw:Nat→Hp→Prop}{st:Stmt}{ON:List Stmt}{τ:DS}{is:List Nat}
theorem bA(h:PSDs X Xw ON τ):PSDs X Xw ON (cI is τ):=fun F₀ H₀=>PSs.weak (h F₀ H₀) fun D σ H ⟨F,ρ,s,w⟩=>⟨F,ρ,s,WPS.fgt w⟩
end
def O7:Option Sl→Option Sl
 |some (.ow c)=>some (.fz c.d)
 |x=>x
def wZ(ρ:a5):a5:=ρ.map O7
def refA(h:Heap)(P:Addr→Prop)[DecidablePred P](H:Hp):Hp:=fun b=>if P b then(H b).map (mZ ((h.get? b).getD {cls:= .none,data:= .fields #[]})) else H b
theorem w4(ob:Obj)(o:HO):mZ ob o=o∨((∃k,o= .dT k)∨∃k,o= .dK k)∧mZ ob o= .frz ob o:=by
 cases o<;>first | exact .inl rfl | exact .inr ⟨.inl ⟨_,rfl⟩,rfl⟩ | exact .inr ⟨.inr ⟨_,rfl⟩,rfl⟩
section
variable{X:Cx}{pins:List (Addr×Obj)}{σ:St}{H:Hp}{s:Shared}{P:Addr→Prop}[DecidablePred P]
theorem gG{h:Heap}{b:Addr}(e:H b=none):refA h P H b=none:=by
 unfold refA;split
 ·rw[e];rfl
 ·exact e
theorem rF{h:Heap}{b:Addr}{o:HO}(e:H b=some o):refA h P H b=some o∨((∃k,o= .dT k)∨∃k,o= .dK k)∧P b∧refA h P H b=some (.frz ((h.get? b).getD {cls:= .none,data:= .fields #[]}) o):=by
 unfold refA;split
 ·rename_i hp
  rw[e]
  rcases w4 ((h.get? b).getD {cls:= .none,data:= .fields #[]}) o with q | ⟨q1,q2⟩
  ·exact .inl (by show some _=_;rw[q])
  ·exact .inr ⟨q1,hp,by show some _=_;rw[q2]⟩
 ·exact .inl e
theorem gF{h:Heap}{b:Addr}{o:HO}(e:H b=some o)(n1:∀k,o≠ .dT k)(n2:∀k,o≠ .dK k):refA h P H b=some o:=by
 rcases rF (P:=P) (h:=h) e with q | ⟨⟨k,q⟩ | ⟨k,q⟩,_⟩
 ·exact q
 ·exact absurd q (n1 k)
 ·exact absurd q (n2 k)
theorem Inv.refA(I:Inv X pins σ H s):Inv X pins σ (L3.refA s.heap P H) s:=by
 have obj:∀b o,H b=some o→((∃k,o=HO.dT k)∨∃k,o= .dK k)→∃ob,s.heap.get? b=some ob:=fun b o e hu=>by
  have hk:=I.hok b o e
  rcases hu with⟨k,h1⟩ | ⟨k,h1⟩
  ·subst h1;obtain⟨_,_,_,_,ob,_,_,q,_⟩:=hk;exact⟨ob,q⟩
  ·subst h1;obtain⟨_,_,_,_,ob,_,_,q,_⟩:=hk;exact⟨ob,q⟩
 refine⟨I.ok,I.os,I.bare,⟨I.base.keep,I.base.slot,fun b q h1 h2 h3=>gG (I.base.free b q h1 h2 h3),I.base.there,fun b xs q=>gF (I.base.tups b xs q) (fun _ z=>nomatch z) (fun _ z=>nomatch z),
  fun b q1 v q=>gF (I.base.frzs b q1 v q) (fun _ z=>nomatch z) (fun _ z=>nomatch z),fun b ps q=>?_⟩,I.loc,I.cell,gG I.free,fun x c q=>gG (I.freeC x c q),fun p hp=>?_,fun b v q=>?_,I.len⟩
 ·obtain⟨m,this⟩:=I.base.tbls b ps q
  exact⟨m,gF this (fun _ z=>nomatch z) (fun _ z=>nomatch z)⟩
 ·obtain⟨h1,h2,h3⟩:=I.pin p hp
  exact⟨h1,gG h2,h3⟩
 ·have st:∀{c:Addr}{v:HO},ObjOk X.prog X.w H s.heap c v→ObjOk X.prog X.w (L3.refA s.heap P H) s.heap c v:=fun {c v} k=>k.stay (fun _ _ _ q=>q)
   (fun c' q=>gF q (fun _ z=>nomatch z) (fun _ z=>nomatch z)) fun c' xs q=>gF q (fun _ z=>nomatch z) (fun _ z=>nomatch z)
  cases e:H b with
  |none=>rw[gG e] at q;cases q
  |some o=>
   rcases rF (P:=P) (h:=s.heap) e with z | ⟨hu,hp,z⟩
   ·rw[z] at q;cases q;exact st (I.hok b _ e)
   ·rw[z] at q
    cases q
    obtain⟨ob,JP⟩:=obj b o e hu
    rw[JP]
    exact⟨JP,st (I.hok b o e)⟩
def unA(P:Addr→Prop)[DecidablePred P](H:Hp):Hp:=fun b=>if P b then(match H b with | some (.frz _ u)=>some u | x=>x) else H b
theorem Inv.unA(I:Inv X pins σ H s)(hP:∀b,P b→∀o u,X.H₀ b≠some (.frz o u))(hQ:∀b,P b→∀o u,H b=some (.frz o u)→(∃k,u= .dT k)∨∃k,u= .dK k):Inv X pins σ (L3.unA P H) s:=by
 have non:∀b,H b=none→L3.unA P H b=none:=fun b e=>by unfold L3.unA;rw[e];split<;>rfl
 have keep:∀b o,H b=some o→(∀q u,o≠ .frz q u)→L3.unA P H b=some o:=fun b o e n=>by
  unfold L3.unA;split
  ·rw[e];cases o<;>first | rfl | exact absurd rfl (n _ _)
  ·exact e
 refine⟨I.ok,I.os,I.bare,⟨I.base.keep,I.base.slot,fun b q h1 h2 h3=>non b (I.base.free b q h1 h2 h3),I.base.there,fun b xs q=>keep b _ (I.base.tups b xs q) (fun _ _ z=>nomatch z),
  fun b q1 v q=>?_,fun b ps q=>?_⟩,I.loc,I.cell,non _ I.free,fun x c q=>non _ (I.freeC x c q),fun p hp=>?_,fun b v q=>?_,I.len⟩
 ·have:=I.base.frzs b q1 v q
  unfold L3.unA
  rw[if_neg (fun hp=>hP b hp q1 v q)]
  exact this
 ·obtain⟨m,this⟩:=I.base.tbls b ps q
  exact⟨m,keep b _ this (fun _ _ z=>nomatch z)⟩
 ·obtain⟨h1,h2,h3⟩:=I.pin p hp
  exact⟨h1,non _ h2,h3⟩
 ·have st:∀{c:Addr}{v:HO},ObjOk X.prog X.w H s.heap c v→ObjOk X.prog X.w (L3.unA P H) s.heap c v:=fun {c v} k=>k.stay (fun _ _ _ q=>q)
   (fun c' q=>keep c' _ q (fun _ _ z=>nomatch z)) fun c' xs q=>keep c' _ q (fun _ _ z=>nomatch z)
  cases e:H b with
  |none=>rw[non b e] at q;cases q
  |some o=>
   have ko:=I.hok b o e
   by_cases hf:∃ob u,o= .frz ob u
   ·obtain⟨ob,u,rfl⟩:=hf
    unfold L3.unA at q
    split at q
    ·rw[e] at q
     cases q
     obtain⟨_,k2⟩:=ko
     exact st k2
    ·rw[e] at q;cases q;exact st ko
   ·rw[keep b o e (fun q u z=>hf ⟨q,u,z⟩)] at q
    cases q
    exact st ko
end
mutual
def yB:D→Bool
 | .non=>true
 | .bl _=>true
 | .int _=>true
 | .str _=>true
 | .tup ds=>yC ds
 | .raw _=>false
 | .exc _=>false
 | .scr _=>false
 | .lst _=>false
 | .dct _ _=>false
 | .dci _ _=>false
def yC:List D→Bool
 |[]=>true
 |d::ds=>yB d&&yC ds
end
def nX(d:D):M D:=if yB d then M.ret d else M.stuck
def OwnAt(σ:St)(ρ:a5)(b:Addr):Prop:=∃(i:Nat) (c:C),ρ[i]? =some (some (Sl.ow c))∧σ[i]? =some (some (V.ref b))
section
variable{K:W.Frag}{F H F' H':Hp}{σ:St}{ρ:a5}{h:Heap}{b:Addr}
theorem OwnAt.obj(S:StE K F H σ ρ)(p:OwnAt σ ρ b):F b=none∧∃o,H b=some o∧((∃x,o= .lst x)∨(∃x,o= .dT x)∨∃x,o= .dK x):=by
 obtain⟨i,c,h1,h2⟩:=p
 obtain⟨v,h3,a,o,rfl,h4,h5,h6⟩:=S.den i _ h1
 rw[h3] at h2
 cases h2
 refine⟨h5,o,h4,?_⟩
 cases c with
 |lst ds=>obtain⟨vs,rfl,_⟩:=h6;exact .inl ⟨_,rfl⟩
 |dct ks ds=>obtain⟨vs,rfl,_⟩:=h6;exact .inr (.inl ⟨_,rfl⟩)
 |dci ks ds=>obtain⟨vs,rfl,_⟩:=h6;exact .inr (.inr ⟨_,rfl⟩)
open Classical in
noncomputable def fA(σ:St)(ρ:a5)(H1 F:Hp):Hp:=fun b=>if OwnAt σ ρ b then H1 b else F b
open Classical in
theorem yA(S:StE K F H σ ρ){H1:Hp}:Same F (fA σ ρ H1 F):=fun b u e=>by
 unfold fA
 rw[if_neg (fun p=>by rw[(OwnAt.obj S p).1] at e;cases e)]
 exact e
open Classical in
theorem Bo(S:StE K F H σ ρ):StE K (fA σ ρ (refA h (OwnAt σ ρ) H) F) (refA h (OwnAt σ ρ) H) σ (wZ ρ):=by
 refine⟨fun b u e=>?_,fun j sl e=>?_⟩
 ·unfold fA at e
  split at e
  ·exact e
  ·rename_i hp
   unfold refA
   rw[if_neg hp]
   exact S.fh b u e
 ·unfold wZ at e
  rw[List.getElem?_map] at e
  cases q:ρ[j]? with
  |none=>rw[q] at e;cases e
  |some x=>
   rw[q] at e
   cases x with
   |none=>cases e
   |some y=>
    cases y with
    |fz d=>
     cases e
     obtain⟨v,h1,h2⟩:=S.den j _ q
     exact⟨v,h1,Den.mono (yA S) h2⟩
    |ow c=>
     cases e
     obtain⟨v,h1,a,o,rfl,h4,h5,h6⟩:=S.den j _ q
     refine⟨_,h1,DenC.den (ob:=(h.get? a).getD {cls:= .none,data:= .fields #[]}) h6 (yA S) ?_⟩
     have hp:OwnAt σ ρ a:=⟨j,c,q,h1⟩
     unfold fA refA
     rw[if_pos hp,if_pos hp,h4]
     rfl
open Classical in
theorem uW(S:StE K F H σ ρ)(E:Ext (fA σ ρ (refA h (OwnAt σ ρ) H) F) (refA h (OwnAt σ ρ) H) F' H'):
 Ext F H (fun b=>if OwnAt σ ρ b then none else F' b) (unA (OwnAt σ ρ) H')∧∀b,OwnAt σ ρ b→∀o u,H' b=some (.frz o u)→(∃k,u= .dT k)∨∃k,u= .dK k:=by
 have NM:∀b,OwnAt σ ρ b→∃o,H b=some o∧H' b=some (mZ ((h.get? b).getD {cls:= .none,data:= .fields #[]}) o)∧((∃x,o= .lst x)∨(∃x,o= .dT x)∨∃x,o= .dK x):=fun b hp=>by
  obtain⟨_,o,h1,h2⟩:=OwnAt.obj S hp
  refine⟨o,h1,E.hh b _ ?_,h2⟩
  unfold refA
  rw[if_pos hp,h1]
  rfl
 refine⟨⟨fun b o e=>?_,fun b u e=>?_,fun b u e=>?_,fun b hb=>?_⟩,fun b hp o u e=>?_⟩
 ·unfold unA
  by_cases hp:OwnAt σ ρ b
  ·obtain⟨o',h1,h2,h3⟩:=NM b hp
   rw[e] at h1
   cases h1
   rw[if_pos hp,h2]
   rcases h3 with⟨x,rfl⟩ | ⟨x,rfl⟩ | ⟨x,rfl⟩<;>rfl
  ·rw[if_neg hp]
   refine E.hh b o ?_
   unfold refA
   rw[if_neg hp]
   exact e
 ·have hp:¬OwnAt σ ρ b:=fun p=>by rw[(OwnAt.obj S p).1] at e;cases e
  show (if OwnAt σ ρ b then none else F' b)=_
  rw[if_neg hp]
  refine E.ff b u ?_
  unfold fA
  rw[if_neg hp]
  exact e
 ·have e:(if OwnAt σ ρ b then none else F' b)=some u:=e
  split at e
  ·cases e
  ·rename_i hp
   unfold unA
   rw[if_neg hp]
   exact E.fh b u e
 ·show (if OwnAt σ ρ b then none else F' b)=F b∨_
  by_cases hp:OwnAt σ ρ b
  ·rw[if_pos hp]
   exact .inl (OwnAt.obj S hp).1.symm
  ·rw[if_neg hp]
   have e1:refA h (OwnAt σ ρ) H b=H b:=by unfold refA;rw[if_neg hp]
   have e2:fA σ ρ (refA h (OwnAt σ ρ) H) F b=F b:=by unfold fA;rw[if_neg hp]
   rcases E.new b (by rw[e1];exact hb) with q | q
   ·exact .inl (q.trans e2)
   ·rw[e1] at q;exact .inr q
 ·obtain⟨o',h1,h2,h3⟩:=NM b hp
  rw[e] at h2
  rcases h3 with⟨x,rfl⟩ | ⟨x,rfl⟩ | ⟨x,rfl⟩
  ·cases h2
  ·cases h2;exact .inl ⟨_,rfl⟩
  ·cases h2;exact .inr ⟨_,rfl⟩
open Classical in
mutual
theorem uT(S:StE K F H σ ρ)(E:Ext (fA σ ρ (refA h (OwnAt σ ρ) H) F) (refA h (OwnAt σ ρ) H) F' H'):∀{d:D}{v:V},yB d=true→Den K F' d v→Den K (fun b=>if OwnAt σ ρ b then none else F' b) d v
 | .non,_,_,q=>q
 | .bl _,_,_,q=>q
 | .int _,_,_,q=>q
 | .str _,_,_,q=>q
 | .tup ds,_,f,⟨a,vs,h1,h2,h3,h4⟩=>by
   refine⟨a,vs,h1,?_,qH S E ?_ h3,h4⟩
   ·show (if OwnAt σ ρ a then none else F' a)=_
    rw[if_neg,h2]
    intro hp
    obtain⟨_,o,k1,k2⟩:=OwnAt.obj S hp
    have k3:fA σ ρ (refA h (OwnAt σ ρ) H) F a=some (mZ ((h.get? a).getD {cls:= .none,data:= .fields #[]}) o):=by
     unfold fA refA
     rw[if_pos hp,if_pos hp,k1]
     rfl
    have k4:=E.ff a _ k3
    rw[h2] at k4
    rcases k2 with⟨x,rfl⟩ | ⟨x,rfl⟩ | ⟨x,rfl⟩<;>cases k4
   ·exact f
 | .raw _,_,f,_=>by cases f
 | .exc _,_,f,_=>by cases f
 | .scr _,_,f,_=>by cases f
 | .lst _,_,f,_=>by cases f
 | .dct _ _,_,f,_=>by cases f
 | .dci _ _,_,f,_=>by cases f
theorem qH(S:StE K F H σ ρ)(E:Ext (fA σ ρ (refA h (OwnAt σ ρ) H) F) (refA h (OwnAt σ ρ) H) F' H'):∀{ds:List D}{vs:List V},yC ds=true→DenL K F' ds vs→DenL K (fun b=>if OwnAt σ ρ b then none else F' b) ds vs
 |[],_,_,q=>q
 |d::ds,_,f,⟨v,r,h1,h2,h3⟩=>by
  unfold yC at f
  rw[Bool.and_eq_true] at f
  exact⟨v,r,h1,uT S E f.1 h2,qH S E f.2 h3⟩
end
end
section
variable{X:Cx}{Xw:Nat→Hp→Prop}{e:Expr}{δ:DE}{τ:DT}
theorem rm{pins:List (Addr×Obj)}{s:Shared}{F H:Hp}{σ:St}{ρ:a5}(I:Inv X pins σ H s)(S:StE X.K F H σ ρ)(b:Addr)(p:OwnAt σ ρ b)(o:Obj)(u:HO):X.H₀ b≠some (.frz o u):=fun z=>by
 obtain⟨_,o',k1,k2⟩:=OwnAt.obj S p
 have:=I.base.frzs b o u z
 rw[k1] at this
 rcases k2 with⟨x,rfl⟩ | ⟨x,rfl⟩ | ⟨x,rfl⟩<;>cases this
theorem oO{α:Type}(m:M α):noex m=M.stuck∨∃a,m=M.ret a∧noex m=M.ret a:=by
 rcases m.cs with h | ⟨n,h⟩ | ⟨a,h⟩
 ·subst h;exact .inl rfl
 ·subst h;exact .inl rfl
 ·subst h;exact .inr ⟨a,rfl,rfl⟩
theorem CB(h:k9 X Xw e τ):k9 X Xw e (fun ρ=>noex (τ (wZ ρ))):=fun pins s σ H Q I ⟨F,ρ,S,w⟩=>by
 classical
 rcases oO (τ (wZ ρ)) with q | ⟨b,q,q2⟩
 ·have w:WPB Xw F H (noex (τ (wZ ρ))) Q:=w
  rw[q] at w
  exact w.elim
 ·have w:WPB Xw F H (noex (τ (wZ ρ))) Q:=w
  rw[q2] at w
  refine bN (h pins s σ _ (fun b' H'=>Q b' (unA (OwnAt σ ρ) H')∧∀c,OwnAt σ ρ c→∀o u,H' c=some (.frz o u)→(∃k,u= .dT k)∨∃k,u= .dK k) (Inv.refA (P:=OwnAt σ ρ) I) ⟨_,_,Bo (h:=s.heap) S,?_⟩) fun b' s' ⟨H',I',q1,q3⟩=>⟨_,Inv.unA I' (rm I S) q3,q1⟩
  rw[q]
  intro H' F' E
  obtain⟨E1,q3⟩:=uW S E
  exact⟨w _ _ E1,q3⟩
theorem Ks(h:PD X Xw e δ):PD X Xw e (fun ρ=>noex (δ (wZ ρ))>>=nX):=fun pins s σ H Q I ⟨F,ρ,S,w⟩=>by
 classical
 rcases oO (δ (wZ ρ)) with q | ⟨d,q,q2⟩
 ·have w:WP X.K Xw F H (noex (δ (wZ ρ))>>=nX) Q:=w
  rw[q] at w
  exact w.elim
 ·have w:WP X.K Xw F H (noex (δ (wZ ρ))>>=nX) Q:=w
  rw[q2,au] at w
  unfold nX at w
  split at w
  ·rename_i hf
   refine bN (h pins s σ _ (fun v H'=>Q v (unA (OwnAt σ ρ) H')∧∀c,OwnAt σ ρ c→∀o u,H' c=some (.frz o u)→(∃k,u= .dT k)∨∃k,u= .dK k) (Inv.refA (P:=OwnAt σ ρ) I) ⟨_,_,Bo (h:=s.heap) S,?_⟩) fun b' s' ⟨v,H',I',rv,q1,q3⟩=>⟨v,_,Inv.unA I' (rm I S) q3,rv,q1⟩
   rw[q]
   intro v H' F' E dn
   obtain⟨E1,q3⟩:=uW S E
   exact⟨w _ _ _ E1 (uT S E hf dn),q3⟩
  ·exact w.elim
end
abbrev DF:=a5→M C
def WPF(K:W.Frag)(Xw:Nat→Hp→Prop)(F H:Hp)(m:M C)(Q:VK):Prop:=
 match m with
 |none=>False
 |some (.ok c)=>∀a o H' F',Ext F H F' H'→H' a=some o→F' a=none→H a=none→DenC K F' c o→Q (.ref a) H'
 |some (.ex n)=>∀F' H',Ext F H F' H'→Xw n H'
def QQ(K:W.Frag)(Xw:Nat→Hp→Prop)(δ:DF):TE:=fun σ H Q=>∃F ρ,StE K F H σ ρ∧WPF K Xw F H (δ ρ) Q
def NI(X:Cx)(Xw:Nat→Hp→Prop)(e:Expr)(δ:DF):Prop:=PE X e (QQ X.K Xw δ)
def C6(i:Nat)(δ:DF):DS:=fun ρ=>δ ρ>>=fun c=>M.ret (.nx (ρ.set i (some (.ow c))))
theorem StOk.setFresh{K:W.Frag}{F₀ H₀ F H F' H':Hp}{σ:St}{ρ:a5}(s:StOk K F₀ H₀ F H σ ρ){i:Nat}{a:Addr}{o:HO}{c₀:C}(E:Ext F H F' H')(ho:H' a=some o)(nF:F' a=none)(n:H a=none)(h:DenC K F' c₀ o):
 StOk K F₀ H₀ F' H' (σ.set i (some (.ref a))) (ρ.set i (some (.ow c₀))):=by
 have hle:=s.len
 have get:∀(j:Nat) (sl:Sl),(ρ.set i (some (.ow c₀)))[j]? =some (some sl)→(j=i∧i<ρ.length∧sl= .ow c₀)∨(j≠i∧ρ[j]? =some (some sl)):=fun j sl e=>by
  by_cases hj:j=i
  ·subst hj
   have hi:j<ρ.length:=by
    have:=(List.getElem?_eq_some_iff.mp e).1
    simpa using this
   rw[List.getElem?_set_self hi] at e
   cases e
   exact .inl ⟨rfl,hi,rfl⟩
  ·rw[List.getElem?_set_ne (Ne.symm hj)] at e
   exact .inr ⟨hj,e⟩
 have old:∀(j:Nat) (c:C) (b:Addr),ρ[j]? =some (some (.ow c))→σ[j]? =some (some (.ref b))→b≠a:=fun j c b e e' z=>by
  obtain⟨u,h1,b',o,h2,h3,_⟩:=s.st.den j _ e
  rw[h1] at e'
  cases e'
  cases h2
  rw[z,n] at h3
  cases h3
 refine⟨s.ext.trans E,⟨E.fh,fun j sl e=>?_⟩,by simp[hle],fun j c b e e'=>?_,fun j k c c' b e1 e2 e3 e4=>?_⟩
 ·rcases get j sl e with⟨rfl,hi,rfl⟩ | ⟨hj,e⟩
  ·exact⟨.ref a,by rw[List.getElem?_set_self (by omega)],a,_,rfl,ho,nF,h⟩
  ·obtain⟨u,h1,h2⟩:=s.st.den j sl e
   exact⟨u,by rw[List.getElem?_set_ne (Ne.symm hj)];exact h1,h2.ext E⟩
 ·rcases get j _ e with⟨rfl,hi,_⟩ | ⟨hj,e⟩
  ·rw[List.getElem?_set_self (by omega)] at e'
   cases e'
   exact Same.free s.ext.hh n
  ·rw[List.getElem?_set_ne (Ne.symm hj)] at e'
   exact s.own j c b e e'
 ·rcases get j _ e1 with⟨rfl,hi,_⟩ | ⟨hj,e1⟩
  ·rw[List.getElem?_set_self (by omega)] at e3
   cases e3
   rcases get k _ e2 with⟨rfl,_,_⟩ | ⟨hk,e2⟩
   ·rfl
   ·rw[List.getElem?_set_ne (Ne.symm hk)] at e4
    exact absurd rfl (old k c' a e2 e4)
  ·rcases get k _ e2 with⟨Mu,hi,_⟩ | ⟨hk,e2⟩
   ·rw[Mu,List.getElem?_set_self (by omega)] at e4
    cases e4
    rw[List.getElem?_set_ne (Ne.symm hj)] at e3
    exact absurd rfl (old j c a (by assumption) e3)
   ·rw[List.getElem?_set_ne (Ne.symm hj)] at e3
    rw[List.getElem?_set_ne (Ne.symm hk)] at e4
    exact s.sep j k c c' b e1 e2 e3 e4
theorem WPF.mono{K:W.Frag}{Xw:Nat→Hp→Prop}{F H:Hp}{m:M C}{Q Q':VK}(h:WPF K Xw F H m Q)(k:∀v H',Q v H'→Q' v H'):WPF K Xw F H m Q':=by
 match m,h with
 |none,h=>exact h
 |some (.ok d),h=>exact fun a o H' F' e h1 h2 h3 h4=>k _ _ (h a o H' F' e h1 h2 h3 h4)
 |some (.ex n),h=>exact h
theorem WPF.ext{K:W.Frag}{Xw:Nat→Hp→Prop}{F H F1 H1:Hp}{m:M C}{Q:VK}(e:Ext F H F1 H1)(h:WPF K Xw F H m Q):WPF K Xw F1 H1 m Q:=by
 match m,h with
 |none,h=>exact h
 |some (.ok d),h=>exact fun a o H' F' e' h1 h2 h3 h4=>h a o H' F' (e.trans e') h1 h2 (Same.free e.hh h3) h4
 |some (.ex n),h=>exact fun F2 H2 e2=>h F2 H2 (e.trans e2)
theorem WPF.bind{K:W.Frag}{Xw:Nat→Hp→Prop}{F H:Hp}{m:M D}{k:D→M C}{Q:VK}(h:WPF K Xw F H (m>>=k) Q):WP K Xw F H m fun v H1=>∃F1 d,Ext F H F1 H1∧Den K F1 d v∧WPF K Xw F1 H1 (k d) Q:=by
 match m,h with
 |none,h=>exact h
 |some (.ok d),h=>exact fun v H2 F2 e2 q=>⟨F2,d,e2,q,WPF.ext e2 (show WPF K Xw F H (k d) Q from h)⟩
 |some (.ex n),h=>exact h
section
variable{X:Cx}{Xw:Nat→Hp→Prop}{e k v a b:Expr}{es:List Expr}{δ δ':DF}{δk δv δa δb:DE}{δs:DA}{pos pos' p:Pos}{x:Str}{i:Nat}
theorem CO(hN:X.N.Nodup)(hi:X.N[i]? =some x)(hx:Loc X.env.scope x)(he:NI X Xw e δ)(hf:X.fn x=true∨X.env.scope.names.lookup x=some .local:=by first | exact .inl rfl | exact .inr rfl)
 (hs:swapsWithSole [.Name x pos'] e pos.line X.env=pure false:=by rfl):
 gL X Xw (.Assign [.Name x pos'] e pos) (C6 i δ):=fun F₀ H₀=>PS.weak (tL he (a7 hN hi hx hf) hs) fun D σ H ⟨F,ρ,s,w⟩=>by
 refine⟨F,ρ,s.st,?_⟩
 unfold C6 at w
 match δ ρ,w with
 |none,w=>exact w
 |some (.ok c),w=>exact fun a o H' F' E h1 h2 h3 h4=>w _ F' H' (s.setFresh E h1 h2 h3 h4)
 |some (.ex n),w=>exact fun F' H' e'=>w F' H' (s.ext.trans e')
theorem Jl{pins:List (Addr×Obj)}{σ:St}{H H':Hp}{s:Shared}{a:Addr}{y v:V}{u r:Value}{A:Around}{E:Value→Shared→Prop}{Q:Unit→Shared→Prop}(hu:A.units+1<cLine)(I:Inv X pins σ H s)(g:DPut H a y v H')(ry:RelV y u)(rv:RelV v r)(h:∀s',Inv X pins σ H' s'→Q () s'):
 wpAny (model X.prog X.w) A (dictSet a u r) Q E s:=by
 rcases g with⟨aw,k,e,ey,l,eH⟩ | ⟨aw,k,b,e,ey,eb,l,eH⟩
 ·subst ey eH
  obtain⟨z,hd,vs,rel,dd⟩:=FV I.hok e
  have hz:vs.length≤sizeLine:=by rw[←rel.length];exact z
  have hl:(putK aw k v).length≤sizeLine:=by have:=eQ aw k v;omega
  refine wpAny_dictSet_pairs (hsz:=hz) (md ry) dd fun h' A_ hs=>h _ ?_
  have he:∃q,h'.get? a=some q:=let ⟨q,_,_,hq,_⟩:=A_;⟨q,hq⟩
  exact j8 I (by rw[e];exact True.intro) hs he (Bc hl hd (rel.put k rv) A_)
 ·subst ey eH
  cases (show u=Value.ref b from ry)
  obtain⟨z,hd,xs,rel,dd⟩:=Bd I.hok e
  have hz:xs.length≤sizeLine:=by rw[←Paired.length rel];exact z
  have hl:(putK aw k v).length≤sizeLine:=by have:=eQ aw k v;omega
  refine wpAny_dictSet_heap (knd:=tupleKind (aX X.prog X.w)) (hsz:=hz) (by exact(show A.units<cLine by omega)) (iC I.hok eb) dd fun h' A_ hs=>h _ ?_
  obtain⟨q,es,ep,hq,h2,h3,h4,_,h5⟩:=A_
  refine j8 I (by rw[e];exact True.intro) hs ⟨q,hq⟩ ⟨hl,hd,_,(rel.put k eb rv).keeps fun c ys ec=>?_,q,es,ep,hq,h2,h3,h4,h5⟩
  rw[ax (B5 ec e (fun z=>nomatch z))]
  exact ec
end
section
variable{X:Cx}{Xw:Nat→Hp→Prop}{e k v a b:Expr}{es:List Expr}{δk δv δa δb:DE}{δs:DA}{pos pos' p:Pos}{x:Str}{i:Nat}
theorem Bb{o0:HO}{put:Hp→Addr→V→V→Hp→Prop}(hu:X.A.units+1<cLine)(h0:∀(H:Hp) (h:Heap),sysModules<h.objs.size→ObjOk X.prog X.w H (h.push {cls:= .type "dict",data:= .dict #[]}) h.objs.size o0){tk tv:TE}(hk:PE X k tk)(hv:PE X v tv):
 PE X (.Dict [some k] [v] pos) (fun σ H Q=>∀p,H p=none→tk σ (upd H p o0) fun y H1=>tv σ H1 fun z H2=>∃H3,DPut H2 p y z H3∧Q (.ref p) H3):=by
 intro pins s σ H Q I q
 have hn:=I.hok.fresh (Nat.le_refl s.heap.objs.size)
 have I1:=I.laid (a:=s.heap.objs.size) (o:=o0) (h':=s.heap.push {cls:= .type "dict",data:= .dict #[]}) (t':=s.toks) (fun _ _ q=>Heap.get?_push_of_some _ q) (Nat.le_refl _) (h0 _ s.heap I.big)
 refine wpAny_Dict_any rfl rfl (by simp) (by simp) (bN (CM hk hv E_ pins _ σ _ (fun ps H2=>∃y z H3,ps=[(y,z)]∧DPut H2 s.heap.objs.size y z H3∧Q (.ref s.heap.objs.size) H3) I1 ?_) fun ws s2 ⟨ps,H2,I2,rel,y,z,H3,ep,g,q2⟩=>?_)
 ·refine ?_
  have:=q _ hn
  show tk σ _ fun y H1=>tv σ H1 fun z H2=>∃y' z' H3,[(y,z)]=[(y',z')]∧DPut H2 s.heap.objs.size y' z' H3∧Q (.ref s.heap.objs.size) H3
  have e:(fun (y:V) (H1:Hp)=>tv σ H1 fun z H2=>∃y' z' H3,[(y,z)]=[(y',z')]∧DPut H2 s.heap.objs.size y' z' H3∧Q (.ref s.heap.objs.size) H3)=(fun y H1=>tv σ H1 fun z H2=>∃H3,DPut H2 s.heap.objs.size y z H3∧Q (.ref s.heap.objs.size) H3):=by
   funext y H1
   congr 1
   funext z H2
   refine propext ⟨fun ⟨y',z',H3,ee,r⟩=>?_,fun⟨H3,r⟩=>⟨y,z,H3,rfl,r⟩⟩
   cases ee
   exact⟨H3,r⟩
  rw[e]
  exact this
 ·subst ep
  cases rel with
  | @cons a b as bs h t=>
    cases t
    obtain⟨r1,r2⟩:=h
    unfold storeAll
    rw[List.forIn_cons]
    refine wpAny_bind (wpAny_bind (Jl hu I2 g r1 r2 fun s3 I3=>?_))
    refine wpAny_pure ?_
    show wpAny _ _ (forIn ([]:List (Value×Value)) PUnit.unit _) _ _ _
    rw[List.forIn_nil]
    exact wpAny_pure ⟨V.ref s.heap.objs.size,_,I3,rfl,q2⟩
def qF(k v:D):M C:=match jw k with
 |some kk=>M.ret (.dct [kk] [v])
 |none=>M.stuck
theorem Al(hu:X.A.units+64<cLine)(hk:PD X Xw k δk)(hv:PD X Xw v δv):NI X Xw (.Dict [some k] [v] pos) (fun ρ=>δk ρ>>=fun x=>δv ρ>>=fun y=>qF x y):=
 PE.weak (Bb (o0:= .dT []) (put:=DPut) (by omega) (fun H h hb=>uP h hb) hk hv) fun σ H Q ⟨F,ρ,s,w⟩ q hq=>by
  have e0:=Ext.free (o:= .dT []) s.fh hq
  refine⟨F,ρ,s.ext e0,?_⟩
  have w:WPF X.K Xw F H (δk ρ>>=fun x=>δv ρ>>=fun y=>qF x y) Q:=w
  match Gb:δk ρ,w with
  |none,w=>exact w
  |some (.ex n),w=>exact fun F' H' e'=>w F' H' (e0.trans e')
  |some (.ok kd),w=>
   intro y H1 F1 e1 q1
   refine⟨F1,ρ,(s.ext e0).ext e1,?_⟩
   have w:WPF X.K Xw F H (δv ρ>>=fun y=>qF kd y) Q:=w
   match J0:δv ρ,w with
   |none,w=>exact w
   |some (.ex n),w=>exact fun F' H' e'=>w F' H' (e0.trans (e1.trans e'))
   |some (.ok vd),w=>
    intro z H2 F2 e2 q2
    have w3:WPF X.K Xw F H (qF kd vd) Q:=w
    clear w
    unfold qF at w3
    cases Gd:jw kd with
    |none=>rw[Gd] at w3;exact w3.elim
    |some kk=>
     rw[Gd] at w3
     have E:=e1.trans e2
     have MG:H2 q=some (.dT []):=E.hh _ _ aE
     have NY:F2 q=none:=by
      have:=E.old (a:=q) (o:= .dT []) aE (fun _ z=>nomatch z)
      rw[this]
      exact Same.free s.fh hq
     unfold jw at Gd
     split at Gd
     ·rename_i es
      obtain⟨b,ws,rfl,k2,k3,_⟩:=Den.mono e2.ff q1
      have e5:=kh Gd k3
      subst e5
      refine⟨_,DPut.t (k:=kk) MG (e2.fh _ _ k2) (by rw[sizeLine_eq];decide),?_⟩
      refine w3 q (.dT (putK [] kk z)) _ F2 ⟨fun c u hc=>?_,(e0.trans E).ff,fun c u hc=>?_,(e0.trans E).new⟩ aE NY hq ⟨[z],rfl, .cons q2 .nil,rfl,show 1≤lim by decide⟩
      ·rw[ax (fun zz=>by rw[zz,hq] at hc;cases hc)]
       exact(e0.trans E).hh c u hc
      ·rw[ax (fun zz=>by rw[zz,NY] at hc;cases hc)]
       exact e2.fh c u hc
     ·cases Gd
theorem rZ{K:W.Frag}{F H:Hp}{d k:D}{x y:V}{o:Option D}(s:Same F H)(hd:Den K F d x)(hk:Den K F k y)(e:AK d k=some o):
 ∃a ov,x= .ref a∧jK H a y ov∧ov.isSome=o.isSome∧∀d',o=some d'→∃v,ov=some v∧Den K F d' v:=by
 obtain⟨a,ov,h1,h2,h3,h4⟩:=yp (σ:=[some x]) (ρ:=[some (.fz d)]) (i:=0) (H:=H) ⟨s,fun i sl q=>by
  match i,q with
  |0,q=>cases q;exact⟨x,rfl,hd⟩
  |i+1,q=>simp at q⟩ rfl hk e
 cases h1
 exact⟨a,ov,rfl,h2,h3,h4⟩
def iz(neg:Bool)(k d:D):M D:=match AK d k with
 |some o=>M.ret (.bl (if neg then !o.isSome else o.isSome))
 |none=>M.stuck
def Ih(neg:Bool):R2:=fun y x H Q=>∃a o,x= .ref a∧jK H a y o∧Q (.bl (if neg then !o.isSome else o.isSome)) H
theorem HA(hu:X.A.units+64<cLine):OpR X (compareOp .In) (Ih false):=fun pins s σ H y x v u Q I ry rx ⟨a,o,ex,g,q⟩=>by
 subst ex
 obtain rfl:u=Value.ref a:=rx
 exact Jk (by omega) I g ry fun s' I'=>⟨.bl o.isSome,_,I',rfl,q⟩
theorem Ag(hu:X.A.units+64<cLine):OpR X (compareOp .NotIn) (Ih true):=fun pins s σ H y x v u Q I ry rx ⟨a,o,ex,g,q⟩=>by
 subst ex
 obtain rfl:u=Value.ref a:=rx
 exact DY (by omega) I g ry fun s' I'=>⟨.bl (!o.isSome),_,I',rfl,q⟩
theorem yT{K:W.Frag}{neg:Bool}:ux K (Ih neg) (iz neg):=fun Xw F H y x dk dd Q s hk hd w=>by
 unfold iz at w
 cases he:AK dd dk with
 |none=>rw[he] at w;exact w.elim
 |some o=>
  rw[he] at w
  obtain⟨a,ov,h1,h2,h3,_⟩:=rZ s hd hk he
  refine⟨a,ov,h1,h2,?_⟩
  rw[h3]
  exact WP.now w s rfl
theorem H9(hu:X.A.units+64<cLine)(ha:PD X Xw a δa)(hb:PD X Xw b δb)(hm:behindInMarks .In b=false:=by rfl):k9 X Xw (.Compare a [.In] [b] pos) (bS (d2 (iz false) δa δb)):=dH (HA hu) yT ha hb hm
theorem rD(hu:X.A.units+64<cLine)(ha:PD X Xw a δa)(hb:PD X Xw b δb)(hm:behindInMarks .NotIn b=false:=by rfl):k9 X Xw (.Compare a [.NotIn] [b] pos) (bS (d2 (iz true) δa δb)):=dH (Ag hu) yT ha hb hm
def jT(d k:D):M D:=match AK d k with
 |some (some v)=>M.ret v
 |_=>M.stuck
theorem tE(hu:X.A.units+64<cLine)(ha:PD X Xw a δa)(hb:PD X Xw b δb)(hs:GC b:=by intro _ _;rfl):PD X Xw (.Subscript a b pos) (d2 jT δa δb):=
 PE.weak (E5 (by omega) ha hb hs) fun σ H Q ⟨F,ρ,s,w⟩=>by
  refine⟨F,ρ,s,WP.mono (WP.bind w) fun x H1 ⟨F1,d,e1,q1,w1⟩=>?_⟩
  refine⟨F1,ρ,s.ext e1,WP.mono (WP.bind w1) fun y H2 ⟨F2,k,e2,q2,w2⟩=>?_⟩
  unfold jT at w2
  cases he:AK d k with
  |none=>rw[he] at w2;exact w2.elim
  |some o=>
   cases o with
   |none=>rw[he] at w2;exact w2.elim
   |some d'=>
    rw[he] at w2
    obtain⟨a,ov,h1,h2,h3,h4⟩:=rZ e2.fh (Den.mono e2.ff q1) q2 he
    obtain⟨v,rfl,hd⟩:=h4 d' rfl
    exact⟨a,v,h1,h2,WP.now w2 e2.fh hd⟩
end
section
variable{X:Cx}{pins:List (Addr×Obj)}{σ:St}{H:Hp}{s:Shared}{h':Heap}
theorem Inv.turnedLaid{t':Nat}{ch:List Addr}{a:Addr}{o:HO}(I:Inv X pins σ H s)(k:∀b q,b∉ch→s.heap.get? b=some q→h'.get? b=some q)(hf:∀b∈ch,pU X pins H b)(hp:s.heap.objs.size≤a)(new:ObjOk X.prog X.w (upd H a o) h' a o):
 Inv X pins σ (upd H a o) {s with heap:=h',toks:=t'}:=by
 have hn:=I.hok.fresh hp
 have Gn:∀b u,H b=some u→b∉ch:=fun b u e z=>by rw[(hf b z).1] at e;cases e
 refine I.step (g':=s.gens) (d':=s.drawn) (ch:=ch) (fun b hb=>?_) (fun b q _ _ hc e _=>k b q hc e) (fun b q _ _ hc e _=>⟨q.slots,k b q hc e⟩) (fun b q hc e n=>?_)
  (fun b q hc e=>⟨q,k b q hc e⟩) (fun b xs e=>?_) (fun b q u e=>?_) (fun b ps e=>⟨#[],?_⟩) (fun m hm=>?_) (fun b u e=>?_) I.bare
 ·obtain⟨f0,f1,f2,f3,f4,f5⟩:=hf b hb
  exact⟨f3,f1,f4,f5⟩
 ·rw[ax (fun z=>by rw[z] at e;exact absurd (Heap.lt_size e) (Nat.not_lt.mpr hp))];exact n
 ·rw[ax (a8 e hn)];exact e
 ·rw[ax (a8 e hn)];exact e
 ·rw[ax (a8 e hn),e];simp
 ·obtain⟨q,es,ep,ho,r⟩:=hm
  exact⟨q,es,ep,k _ q (fun z=>(hf _ z).2.1 rfl) ho,r⟩
 ·by_cases hb:b=a
  ·subst hb;rw[aE] at e;cases e;exact new
  ·rw[ax hb] at e
   refine(I.hok b u e).stay (fun c v hc q=>k c v ?_ q) (fun c q=>by rw[ax (a8 q hn)];exact q) fun c xs q=>by rw[ax (a8 q hn)];exact q
   rcases hc with z | z
   ·rw[z];exact Gn b u e
   ·exact Gn c _ z
theorem Inv.turnedL{t':Nat}{ch:List Addr}(I:Inv X pins σ H s)(k:∀b q,b∉ch→s.heap.get? b=some q→h'.get? b=some q)(hf:∀b∈ch,pU X pins H b):Inv X pins σ H {s with heap:=h',toks:=t'}:=by
 have Gn:∀b u,H b=some u→b∉ch:=fun b u e z=>by rw[(hf b z).1] at e;cases e
 refine I.step (g':=s.gens) (d':=s.drawn) (ch:=ch) (fun b hb=>?_) (fun b q _ _ hc e _=>k b q hc e) (fun b q _ _ hc e _=>⟨q.slots,k b q hc e⟩) (fun b q hc e n=>n)
  (fun b q hc e=>⟨q,k b q hc e⟩) (fun b xs e=>e) (fun b q u e=>e) (fun b ps e=>⟨#[],by rw[e];simp⟩) (fun m hm=>?_) (fun b u e=>?_) I.bare
 ·obtain⟨f0,f1,f2,f3,f4,f5⟩:=hf b hb
  exact⟨f3,f1,f4,f5⟩
 ·obtain⟨q,es,ep,ho,r⟩:=hm
  exact⟨q,es,ep,k _ q (fun z=>(hf _ z).2.1 rfl) ho,r⟩
 ·refine(I.hok b u e).stay (fun c v hc q=>k c v ?_ q) (fun c q=>q) fun c xs q=>q
  rcases hc with z | z
  ·rw[z];exact Gn b u e
  ·exact Gn c _ z
end
def ND(K:W.Frag)(a:Addr):It:=
 ⟨fun i H=>∃xs x,SqL K H a xs∧xs[i]? =some x,fun i H x H'=>∃p,x= .ref p∧H p=none∧∃v,(∀xs,SqL K H a xs→xs[i]? =some v)∧H'=upd H p (.tup [.int (i:Int),v]),fun i H=>∃xs,SqL K H a xs∧xs.length≤i⟩
theorem AD{P:Program}{w:World}{K:W.Frag}{es:List Expr}{x1}{tp:Pos}(l e it:Addr)(Ob:e≠it):
 Turn P w K (.Tuple es x1 tp) (ND K l) [e,it] e (fun i h=>∃old,IsEnum h e it (i:Int) old∧h.IsListIter it l i) where
 mem:=by simp
 obj:=fun i h ⟨old,wF,xW⟩ b hb=>by
  rcases List.mem_cons.mp hb with z | z
  ·subst z;exact⟨_,wF,fun v z=>nomatch z⟩
  ·have z:b=it:=by simpa using z
   subst z
   obtain⟨o,e1,c,d⟩:=xW
   exact⟨o,e1,fun v z=>by rw[d] at z;cases z⟩
 keep:=fun i h h' ⟨old,wF,xW⟩ k=>⟨old,k e (by simp) _ wF,xW.at fun o q=>k it (by simp) o q⟩
 item:=by
  intro X hP hw hK hc i pins s σ H E I hf st hg
  subst hP hw hK
  obtain⟨old,wF,xW⟩:=st
  obtain⟨xs,x,hq,hx⟩:=hg
  obtain⟨aB,rv,p,hz⟩:=I.list hq
  obtain⟨u,hu,ru⟩:=rv.get hx
  refine wpAny_pyNext_enum_item wF xW p.isList (x:=u) (by simpa using hu) Ob fun h1 k1 k2 k3 k4 k5=>?_
  refine⟨_,rfl,wpAny_letOwnedTupleGo_enum k1 fun h2 m1 m2=>?_⟩
  have il:s.heap.objs.size≠e:=Nat.ne_of_gt (Heap.lt_size wF)
  have Dr:h2.get? s.heap.objs.size=some {cls:= .type "tuple",data:= .seq #[.int i s.toks,u]}:=(m2.2 _ il).trans k3
  have keep:∀b q,b∉[e,it]→s.heap.get? b=some q→h2.get? b=some q:=fun b q hb e1=>by
   have GZ:b≠e:=fun z=>hb (by simp[z])
   have G0:b≠it:=fun z=>hb (by simp[z])
   exact(m2.2 b GZ).trans (k5 b q GZ G0 e1)
  have I2:Inv X pins σ (upd H s.heap.objs.size (.tup [.int (i:Int),x])) {s with heap:=h2,toks:=s.toks+1}:=by
   refine Inv.turnedLaid (s:=s) I keep hf (Nat.le_refl _) ⟨?_,[.int i s.toks,u], .cons ⟨_,rfl⟩ (.cons ru .nil),_,Dr,rfl,_,rfl⟩
   rw[sizeLine_eq];show 2≤_;decide
  refine⟨.ref s.heap.objs.size,_,I2,rfl,⟨_,rfl,I.hok.fresh (Nat.le_refl _),x,fun ys hy=>by rw[I.list_inj hy hq];exact hx,rfl⟩,⟨u,?_,?_⟩,fun b hb=>?_⟩
  ·have:((i+1:Nat):Int)=(i:Int)+1:=by push_cast;rfl
   rw[this];exact m1
  ·exact k2.at fun o q=>(m2.2 it (Ne.symm Ob)).trans q
  ·rw[ax (fun z=>by
    rcases List.mem_cons.mp hb with y | y
    ·exact absurd (Heap.lt_size wF) (by rw[←y,z];exact Nat.lt_irrefl _)
    ·have y:b=it:=by simpa using y
     obtain⟨o,q1,_⟩:=id xW
     exact absurd (Heap.lt_size q1) (by rw[←y,z];exact Nat.lt_irrefl _))]
   exact(hf b hb).1
 done:=by
  intro X hP hw hK hc i pins s σ H E I hf st hg
  subst hP hw hK
  obtain⟨old,wF,xW⟩:=st
  obtain⟨xs,hq,hx⟩:=hg
  obtain⟨aB,rv,p,hz⟩:=I.list hq
  have hl:=rv.length
  exact wpAny_pyNext_enum_end (I.ok.hd hc) wF xW p.isList (by simp;omega) fun h' eb=>⟨rfl,Inv.turnedL (t':=s.toks) (ch:=[it]) I (fun b q hb e1=>eb b q (fun z=>hb (by simp[z])) e1) fun b hb=>hf b (List.mem_cons_of_mem _ hb)⟩
 self:=fun A i s Q E st h=>by
  obtain⟨old,wF,xW⟩:=st
  exact wpAny_pyIter_enum wF h
theorem BL{K:W.Frag}{F:Hp}{a:Addr}{vs:List V}{ds:List D}(h:SqL K F a vs)(hd:DenL K F ds vs):ItD K F (ND K a) (ds.mapIdx fun i d=> .tup [.int (i:Int),d]):=fun F' H' i s1 s2=>by
 have hs:=Same.seq s2 (Same.seq s1 h)
 refine⟨fun d e=>?_,fun hl=>⟨vs,hs,by rw[List.length_mapIdx,hd.len] at hl;exact hl⟩⟩
 rw[List.getElem?_mapIdx] at e
 cases q:ds[i]? with
 |none=>rw[q] at e;cases e
 |some d0=>
  rw[q] at e
  cases e
  obtain⟨v,e1,q1⟩:=hd.get q
  refine⟨⟨vs,v,hs,e1⟩,fun x H'' ⟨p,y1,y2,u,y3,y4⟩=>?_⟩
  subst y1 y4
  have:=y3 vs hs
  rw[e1] at this
  cases this
  have E:=Ext.lay (o:= .tup [.int (i:Int),v]) s2 y2
  exact⟨_,E,p,_,rfl,aE, .cons rfl (.cons (Den.mono E.ff (Den.mono s1 q1)) .nil),by show 2≤lim;decide⟩
section
variable{X:Cx}{Xw:Nat→Hp→Prop}{tg e:Expr}{es:List Expr}{δ δi:DE}{δs:DA}{pos p tp:Pos}{x1:Nat}
def yy:List D→M (List D)
 |[.lst ds]=>M.ret (ds.mapIdx fun i d=> .tup [.int (i:Int),d])
 |_=>M.stuck
theorem Cw(hg:Gl X "enumerate")(hm:X.mg "enumerate"=none)(ha:lg X Xw [e] δs)(hs:starEach [e] X.env=[(false,eval e X.env)]:=by rfl):wA X Xw (.Tuple es x1 tp) (.Call (.Name "enumerate" p) [e] [] pos) (fun ρ=>δs ρ>>=yy):=by
 intro pins s σ H R I ⟨F,ρ,S,w⟩
 refine Call_ (gQ I hg hm (show bootBuiltins "enumerate"=some (.type "enumerate") from rfl) (PyProof.Rows.callWith_type1 (bN (ha pos pins s σ H (fun vs H1=>∃F1 ds,Ext F H F1 H1∧DenL X.K F1 ds vs∧WPI X.K Xw F1 H1 (yy ds) R) I ⟨F,ρ,S,WPI.bindL w⟩) fun us s1 ⟨vs,H1,I1,r1,F1,ds,e1,q1,w1⟩=>?_) hs rfl))
 unfold yy at w1
 split at w1
 ·rename_i ds
  obtain⟨v,rfl,h1⟩:=q1.one
  obtain⟨a,xs,rfl,h2,h3,h4⟩:=h1
  obtain⟨u,rfl,r2⟩:=r1.one
  cases (show u=_ from r2)
  obtain⟨aB,rv,pl,hz⟩:=I1.list (SqL.of (K:=X.K) (e1.fh _ _ h2))
  refine call_enumerate_list pl.isList fun h' k1 k2 k3 k4=>?_
  refine wpAny_pyIter_enum k1 ?_
  refine⟨s1.heap.objs.size+1,[s1.heap.objs.size+1,s1.heap.objs.size],_,_,H1,rfl,I1.kept (t':=s1.toks) fun b o e=>k4 b o e,AD a _ _ (Nat.ne_of_gt (Nat.lt_succ_self _)),⟨.none,k1,k2⟩,fun b hb=>?_,w1 _ _ _ (Ext.refl e1.fh) (BL (SqL.of h2) h3)⟩
  have e:s1.heap.objs.size≤b:=by
   rcases List.mem_cons.mp hb with z | z
   ·rw[z];exact Nat.le_succ _
   ·have z:b=s1.heap.objs.size:=by simpa using z
    rw[z];exact Nat.le_refl _
  exact I1.fpOk e (I1.hok.fresh e)
 ·exact w1.elim
end
def Ep:Key→D
 | .inl i=> .int i
 | .inr x=> .str x
def FN(H:Hp)(d:Addr)(od:Obj)(i:Nat)(x:V):Prop:=
 (∃aw k b,H d=some (.frz od (.dT aw))∧(aw.map (·.1))[i]? =some k∧x= .ref b∧H b=some (.tup (k.map kV)))∨
 ∃aw k,H d=some (.frz od (.dK aw))∧(aw.map (·.1))[i]? =some k∧x=kV k
def NC(d:Addr)(od:Obj):It:=
 ⟨fun i H=>(∃aw,H d=some (.frz od (.dT aw))∧i<aw.length)∨∃aw,H d=some (.frz od (.dK aw))∧i<aw.length,fun i H x H'=>H'=H∧FN H d od i x,
  fun i H=>(∃aw,H d=some (.frz od (.dT aw))∧aw.length≤i)∨∃aw,H d=some (.frz od (.dK aw))∧aw.length≤i⟩
theorem mM{α β γ:Type}{R:α→β→Prop}{f:α→γ}{g:β→γ}(h:∀a b,R a b→f a=g b):∀{l:List α}{m:List β},Paired R l m→l.map f=m.map g
 |_,_, .nil=>rfl
 |_,_, .cons r t=>by rw[List.map_cons,List.map_cons,h _ _ r,mM h t]
theorem gX{α β:Type}{R:α→β→Prop}:∀{l:List α}{m:List β}{i:Nat}{a:α},Paired R l m→l[i]? =some a→∃b,m[i]? =some b∧R a b
 |_,_,i,_, .nil,e=>by simp at e
 |_,_,0,_, .cons r t,e=>by simp at e;subst e;exact⟨_,rfl,r⟩
 |_,_,i+1,_, .cons r t,e=>by
  obtain⟨b,e1,e2⟩:=gX (i:=i) t (by simpa using e)
  exact⟨b,by simpa using e1,e2⟩
theorem Aj{prog:Program}{w:World}{κ:Type}[DecidableEq κ]{knd:KeyKind prog w κ}:∀{es:List DictEntry}{aw:List (κ×Value)}{i:Nat}{kv:κ×Value},Pairs knd es aw→aw[i]? =some kv→∃e,es[i]? =some e∧knd.is kv.1 e.key=true:=by
 intro es aw i kv h e
 induction h generalizing i with
 |nil=>simp at e
 | @cons en Rh FX QI h1 h2 h3 ih=>
   cases i with
   |zero=>simp at e;subst e;exact⟨en,rfl,h1⟩
   |succ i=>
    obtain⟨q,e1,e2⟩:=ih (i:=i) (by simpa using e)
    exact⟨q,by simpa using e1,e2⟩
theorem Hq{k:Key}{u:Value}(h:og k u=true):RelV (kV k) u:=by
 rcases bJ h with⟨i,t,rfl,rfl⟩ | ⟨x,t,rfl,rfl⟩
 ·exact⟨t,rfl⟩
 ·exact⟨t,rfl⟩
theorem nW{X:Cx}{pins:List (Addr×Obj)}{σ:St}{H:Hp}{s:Shared}{d:Addr}{od:Obj}{n:Nat}(I:Inv X pins σ H s)
 (h:(∃aw,H d=some (.frz od (.dT aw))∧n=aw.length)∨∃aw,H d=some (.frz od (.dK aw))∧n=aw.length):
 ∃es ep,(d==sysModules)=false∧s.heap.get? d=some od∧od.ExactDict∧od.data= .dict es ep∧es.size=n∧∀i,i<n→∃e x,es[i]? =some e∧RelV x e.key∧FN H d od i x:=by
 rcases h with⟨aw,e,rfl⟩ | ⟨aw,e,rfl⟩
 ·obtain⟨ho,z,lo,xs,rel,o,es,ep,h1,h2,h3,h4,h5⟩:=(show ObjOk X.prog X.w H s.heap d (.frz od (.dT aw)) from I.hok d _ e)
  rw[ho] at h1
  cases h1
  have hl:es.size=aw.length:=by
   rw[←Array.length_toList,h4,List.length_map]
   exact(Paired.length rel).symm
  refine⟨es,ep,lo,ho,h2,h3,hl,fun i hi=>?_⟩
  obtain⟨q,e1,e2,e3,e4⟩:=gX rel (List.getElem?_eq_getElem hi)
  refine⟨entryOfKey (tupleKind (aX X.prog X.w)) q, .ref q.2.1,?_,rfl, .inl ⟨aw,aw[i].1,q.2.1,e,?_,rfl,e3⟩⟩
  ·rw[←Array.getElem?_toList,h4,List.getElem?_map,e1]
   rfl
  ·rw[List.getElem?_map,List.getElem?_eq_getElem hi]
   rfl
 ·obtain⟨ho,z,lo,vs,rel,o,es,ep,h1,h2,h3,h4,h5,h6⟩:=(show ObjOk X.prog X.w H s.heap d (.frz od (.dK aw)) from I.hok d _ e)
  rw[ho] at h1
  cases h1
  have hl:es.size=aw.length:=by
   rw[←Array.length_toList,h5.length]
   exact(Paired.length rel).symm
  refine⟨es,ep,lo,ho,h2,h3,hl,fun i hi=>?_⟩
  obtain⟨q,e1,e2,e3⟩:=gX rel (List.getElem?_eq_getElem hi)
  obtain⟨en,e4,e5⟩:=Aj h5 e1
  refine⟨en,kV aw[i].1,by rw[←Array.getElem?_toList];exact e4,?_, .inr ⟨aw,aw[i].1,e,by rw[List.getElem?_map,List.getElem?_eq_getElem hi];rfl,rfl⟩⟩
  rw[e2]
  exact Hq e5
theorem AE{P:Program}{w:World}{K:W.Frag}{tg:Expr}(d it:Addr)(od:Obj)(es:Array DictEntry)(ep:Nat)(ik:od.data= .dict es ep):
 Turn P w K tg (NC d od) [it] it (fun i h=>h.IsKeyIter it d i es.size ep) where
 mem:=by simp
 obj:=fun i h st b hb=>by
  have e:b=it:=by simpa using hb
  subst e
  obtain⟨o,e,c,dd⟩:=st
  exact⟨o,e,fun v z=>by rw[dd] at z;cases z⟩
 keep:=fun i h h' st k=>st.at fun o e=>k it (by simp) o e
 item:=by
  intro X hP hw hK hc i pins s σ H E I hf st hg
  subst hP hw hK
  obtain⟨n,hn,hi⟩:∃n,((∃aw,H d=some (.frz od (.dT aw))∧n=aw.length)∨∃aw,H d=some (.frz od (.dK aw))∧n=aw.length)∧i<n:=by
   rcases hg with⟨aw,e,hi⟩ | ⟨aw,e,hi⟩
   ·exact⟨_, .inl ⟨aw,e,rfl⟩,hi⟩
   ·exact⟨_, .inr ⟨aw,e,rfl⟩,hi⟩
  obtain⟨FX,Bh,lo,ho,hx,lA,hsz,hk⟩:=nW I hn
  rw[ik] at lA
  cases lA
  obtain⟨en,x,e1,rx,ka⟩:=hk i hi
  obtain⟨f0,f1,f2,f3,f4,f5⟩:=hf it (by simp)
  refine vn st ho ik e1 fun h' pD sb=>?_
  have I1:Inv X pins σ H {s with heap:=h'}:=I.turned (t':=s.toks) (fun b o hb e=>(sb.2 b hb).trans e) f0 f1 f3 f4 f5
  obtain⟨o,e2,c,dd⟩:=id pD
  exact⟨_,rfl,qK (s:={s with heap:=h'}) e2 c dd (by decide) ⟨x,H,I1,rx,⟨rfl,ka⟩,pD,fun b hb=>(hf b hb).1⟩⟩
 done:=by
  intro X hP hw hK hc i pins s σ H E I hf st hg
  subst hP hw hK
  obtain⟨n,hn,hi⟩:∃n,((∃aw,H d=some (.frz od (.dT aw))∧n=aw.length)∨∃aw,H d=some (.frz od (.dK aw))∧n=aw.length)∧n≤i:=by
   rcases hg with⟨aw,e,hi⟩ | ⟨aw,e,hi⟩
   ·exact⟨_, .inl ⟨aw,e,rfl⟩,hi⟩
   ·exact⟨_, .inr ⟨aw,e,rfl⟩,hi⟩
  obtain⟨FX,Bh,lo,ho,hx,lA,hsz,hk⟩:=nW I hn
  rw[ik] at lA
  cases lA
  obtain⟨f0,f1,f2,f3,f4,f5⟩:=hf it (by simp)
  exact qG (I.ok.hd hc) st (by omega) ho ik fun h' eb=>⟨rfl,I.turned (t':=s.toks) (fun b o hb e=>eb b o hb e) f0 f1 f3 f4 f5⟩
 self:=fun _ _ _ _ _ st h=>wpAny_pyIter_keyiter st h
def tupK(k:List Key):D:= .tup (k.map Ep)
def mB:Key→Bool
 | .inl _=>true
 | .inr x=>decide (x.length≤lim)
def me:D→M (List D)
 | .dct ks _=>if ks.all (fun k=>decide (k.length≤lim)&&k.all mB) then M.ret (ks.map tupK) else M.stuck
 | .dci ks _=>if ks.all mB then M.ret (ks.map Ep) else M.stuck
 |_=>M.stuck
theorem va{K:W.Frag}{F:Hp}{k:Key}(h:mB k=true):Den K F (Ep k) (kV k):=by
 cases k with
 |inl i=>exact rfl
 |inr x=>exact⟨rfl,of_decide_eq_true h⟩
theorem lG{K:W.Frag}{F:Hp}:∀{k:List Key},k.all mB=true→DenL K F (k.map Ep) (k.map kV)
 |[],_=>rfl
 |x::k,h=>by
  rw[List.all_cons,Bool.and_eq_true] at h
  exact .cons (va h.1) (lG h.2)
theorem BM{K:W.Frag}{F:Hp}{a:Addr}{ob:Obj}{d:D}{ds:List D}(hd:Den K F d (.ref a))(hF:∃u,F a=some (.frz ob u))(e:me d=M.ret ds):ItD K F (NC a ob) ds:=fun F' H' i s1 s2=>by
 unfold me at e
 split at e
 ·rename_i ks es
  split at e
  ·rename_i hok
   obtain rfl:=fb e
   obtain⟨a',QL,vs,z,h2,h3,h4,h5⟩:=hd
   cases z
   obtain⟨u,hu⟩:=hF
   rw[h2] at hu
   cases hu
   have hh:=s2 _ _ (s1 _ _ h2)
   have hz:=ju (a:=ks) (b:=vs) (by rw[h4];exact h3.len)
   have hl:(ks.zip vs).length=ks.length:=by rw[←List.length_map (f:=(·.1)),hz]
   refine⟨fun d e=>?_,fun hle=> .inl ⟨_,hh,by rw[hl];simpa using hle⟩⟩
   rw[List.getElem?_map] at e
   cases q:ks[i]? with
   |none=>rw[q] at e;cases e
   |some k=>
    rw[q] at e
    cases e
    have hi:=(List.getElem?_eq_some_iff.mp q).1
    refine⟨.inl ⟨_,hh,by rw[hl];exact hi⟩,fun x H'' ⟨y1,y2⟩=>?_⟩
    subst y1
    have hk:=List.all_eq_true.mp hok k (List.mem_of_getElem? q)
    rw[Bool.and_eq_true] at hk
    rcases y2 with⟨aw,k',b,q1,q2,rfl,q3⟩ | ⟨aw,k',q1,q2,rfl⟩
    ·rw[hh] at q1
     cases q1
     rw[hz,q] at q2
     cases q2
     have E:=Ext.tup (F:=F') s2 q3
     exact⟨_,E,b,_,rfl,aE,lG hk.2,by rw[List.length_map];exact of_decide_eq_true hk.1⟩
    ·rw[hh] at q1;cases q1
  ·exact(fR e).elim
 ·rename_i ks es
  split at e
  ·rename_i hok
   obtain rfl:=fb e
   obtain⟨a',QL,vs,z,h2,h3,h4,h5⟩:=hd
   cases z
   obtain⟨u,hu⟩:=hF
   rw[h2] at hu
   cases hu
   have hh:=s2 _ _ (s1 _ _ h2)
   have hz:=ju (a:=ks) (b:=vs) (by rw[h4];exact h3.len)
   have hl:(ks.zip vs).length=ks.length:=by rw[←List.length_map (f:=(·.1)),hz]
   refine⟨fun d e=>?_,fun hle=> .inr ⟨_,hh,by rw[hl];simpa using hle⟩⟩
   rw[List.getElem?_map] at e
   cases q:ks[i]? with
   |none=>rw[q] at e;cases e
   |some k=>
    rw[q] at e
    cases e
    have hi:=(List.getElem?_eq_some_iff.mp q).1
    refine⟨.inr ⟨_,hh,by rw[hl];exact hi⟩,fun x H'' ⟨y1,y2⟩=>?_⟩
    subst y1
    have hk:=List.all_eq_true.mp hok k (List.mem_of_getElem? q)
    rcases y2 with⟨aw,k',b,q1,q2,rfl,q3⟩ | ⟨aw,k',q1,q2,rfl⟩
    ·rw[hh] at q1;cases q1
    ·rw[hh] at q1
     cases q1
     rw[hz,q] at q2
     cases q2
     exact⟨F',Ext.refl s2,va hk⟩
  ·exact(fR e).elim
 ·exact(fR e).elim
section
variable{X:Cx}{Xw:Nat→Hp→Prop}{tg l:Expr}{δ:DE}
theorem Cy(h:PD X Xw l δ):wA X Xw tg l (fun ρ=>δ ρ>>=me):=by
 intro pins s σ H R I ⟨F,ρ,S,w⟩
 refine bN (h pins s σ H (fun v H1=>∃F1 d,Ext F H F1 H1∧Den X.K F1 d v∧WPI X.K Xw F1 H1 (me d) R) I ⟨F,ρ,S,WPI.bind w⟩) fun u s1 ⟨v,H1,I1,r1,F1,d,e1,q1,w1⟩=>?_
 rcases(me d).cs with z | ⟨n,z⟩ | ⟨ds,z⟩
 ·rw[z] at w1;exact w1.elim
 ·exfalso
  unfold me at z
  split at z
  ·split at z<;>cases z
  ·split at z<;>cases z
  ·cases z
 ·rw[z] at w1
  obtain⟨a,ob,u',rfl,hF,hn⟩:∃a ob u',v= .ref a∧F1 a=some (.frz ob u')∧∃n,((∃aw,H1 a=some (.frz ob (.dT aw))∧n=aw.length)∨∃aw,H1 a=some (.frz ob (.dK aw))∧n=aw.length):=by
   unfold me at z
   split at z
   ·obtain⟨a,ob,vs,e,h2,_⟩:=q1;exact⟨a,ob,_,e,h2,_, .inl ⟨_,e1.fh _ _ h2,rfl⟩⟩
   ·obtain⟨a,ob,vs,e,h2,_⟩:=q1;exact⟨a,ob,_,e,h2,_, .inr ⟨_,e1.fh _ _ h2,rfl⟩⟩
   ·exact(fR z).elim
  obtain⟨n,hn⟩:=hn
  cases (show u=_ from r1)
  obtain⟨es,ep,lo,ho,hx,hd,hsz,hk⟩:=nW I1 hn
  refine qS lo ho hx hd ?_
  refine⟨s1.heap.objs.size,[s1.heap.objs.size],_,_,H1,rfl,I1.kept (t':=s1.toks) fun b o e=>Heap.get?_push_of_some _ e,AE a _ ob es ep hd,⟨_,Heap.get?_push_size _ rfl,rfl,rfl⟩,fun b hb=>?_,w1 _ _ _ (Ext.refl e1.fh) (BM q1 ⟨_,hF⟩ z)⟩
  have e:b=s1.heap.objs.size:=by simpa using hb
  subst e
  exact I1.fpOk (Nat.le_refl _) (I1.hok.fresh (Nat.le_refl _))
end
end L3
namespace L3
open PySem
section
variable{prog:Program}{w:World}{K:Type}[DecidableEq K]{knd:HeapKind prog w K}{A:Around}{E:Value→Shared→Prop}{s:Shared}
theorem pA{d a:Addr}{xs:List (K×Addr×Value)}{k:K}{v:Value}{Q:Unit→Shared→Prop}(hu:knd.room A)(D9:knd.is s.heap k a)(hm:s.heap.DictOfH knd d xs)(hsz:xs.length≤sizeLine)
 (hQ:∀h',h'.DictOfH knd d (storedH xs k a v)→Heap.SameBut d s.heap h'→Q () {s with heap:=h'}):wpAny (model prog w) A (dictSetHashed d (.ref a) (knd.hash k) v) Q E s:=by
 obtain⟨o,es,ep,ho,hc,hd,he,Ms,hn⟩:=hm
 unfold dictSetHashed
 refine wpAny_holding (wpAny_bind (wpAny_dictFind_heap hu D9 ho hd he Ms hn (fun w6=>?_) fun j p hj=>?_))
 ·have e0:=atKey_none_of_get w6
  have hz:es.size≤sizeLine:=by rw[size_of_entries he];exact hsz
  refine wpAny_bind (wpAny_rule (wpAny_updateDictKeys (hz:=hz) ho hd (hQ _ ?_ (Heap.SameBut.update ..))))
  rw[storedH_new e0]
  refine⟨_,_,ep+1,Heap.get?_update_self _ ho (Obj.isFreed_of_dict (Obj.data_mapDictKeys hd _)),hc.mapDictKeys _,Obj.data_mapDictKeys hd _,by simp[he,entryOfKey],fun x hx=>?_,?_⟩
  ·rcases List.mem_append.mp hx with hx | hx
   ·exact knd.keeps (Ms x hx) ho hd (Heap.SameBut.update ..)
   ·obtain rfl:x=(k,a,v):=by simpa using hx
    exact knd.keeps D9 ho hd (Heap.SameBut.update ..)
  ·rw[List.map_append]
   refine List.nodup_append.mpr ⟨hn,by simp,fun x hx y hy z=>?_⟩
   have hy:y=k:=by simpa using hy
   exact not_mem_keys_of_get w6 (by rw[←hy,←z];exact hx)
 ·have e0:=atKey_of_get hn hj
  refine wpAny_bind (wpAny_rule (wpAny_bind (wpAny_updateDict ho hd (wpAny_point (hQ _ ?_ (Heap.SameBut.update ..))))))
  rw[storedH_old e0]
  refine⟨_,_,ep,Heap.get?_update_self _ ho (Obj.isFreed_of_dict (Obj.data_mapDict hd _)),hc.mapDict _,Obj.data_mapDict hd _,?_,fun x hx=>?_,by rw[keys_map_putAt];exact hn⟩
  ·have:=modify_map_putAt (entryOfKey knd) (fun e:DictEntry=>{e with val:=v}) k v (fun _ _=>rfl) hn hj
   rw[←he] at this
   obtain⟨l⟩:=es
   simpa using this
  ·obtain⟨y,hy,rfl⟩:=List.mem_map.mp hx
   unfold putAt
   split<;>exact knd.keeps (Ms y hy) ho hd (Heap.SameBut.update ..)
def cR(xs ys:List (K×Addr×Value)):List (K×Addr×Value):=ys.foldl (fun acc y=>storedH acc y.1 y.2.1 y.2.2) xs
theorem v9(xs:List (K×Addr×Value))(k:K)(a:Addr)(v:Value):(storedH xs k a v).length≤xs.length+1:=by
 unfold storedH;split<;>simp
theorem mf:∀(ys xs:List (K×Addr×Value)),(cR xs ys).length≤xs.length+ys.length
 |[],xs=>Nat.le_refl _
 |y::ys,xs=>by
  have h1:=mf ys (storedH xs y.1 y.2.1 y.2.2)
  have h2:=v9 xs y.1 y.2.1 y.2.2
  show (cR (storedH xs y.1 y.2.1 y.2.2) ys).length≤_
  rw[List.length_cons];omega
theorem sM{xs ys:List (K×Addr×Value)}{i:Nat}{y:K×Addr×Value}(h:ys[i]? =some y):cR xs (ys.take (i+1))=storedH (cR xs (ys.take i)) y.1 y.2.1 y.2.2:=by
 rw[List.take_add_one,h]
 unfold cR
 rw[List.foldl_append]
 rfl
theorem mh:∀(ys acc:List (K×Addr×Value)),((acc++ys).map (·.1)).Nodup→cR acc ys=acc++ys
 |[],acc,_=>by simp[cR]
 |y::ys,acc,hn=>by
  show cR (storedH acc y.1 y.2.1 y.2.2) ys=_
  have MA:y.1∉acc.map (·.1):=fun h=>by
   rw[List.map_append] at hn
   exact(List.nodup_append.mp hn).2.2 _ h _ (by simp) rfl
  have e0:atKey acc y.1=none:=atKey_none_of_get fun j p hj=>MA (List.mem_map.mpr ⟨_,List.mem_of_getElem? hj,rfl⟩)
  rw[storedH_new e0,mh ys (acc++[(y.1,y.2.1,y.2.2)]) (by simpa using hn)]
  simp
theorem sk{id:String}{o:Addr}{ob:Obj}{es:Array DictEntry}{ep:Nat}{Q:Array DictEntry→Shared→Prop}(ho:s.heap.get? o=some ob)(hd:ob.data= .dict es ep)
 (hq:∀e∈es.toList,∃a,e.key= .ref a∧s.TypeIs (.ref a) "tuple")(hh:∀e∈es.toList,(es.filter (·.hash==e.hash)).size≤1)(h:Q es s):wpAny (model prog w) A (Builtin.Dict.entriesForEmpty id o) Q E s:=by
 unfold Builtin.Dict.entriesForEmpty
 refine wpAny_bind (wpAny_dictEntries ho hd ?_)
 rw[←Array.forIn_toList]
 refine wpAny_bind (wpAny_forIn_list _ (fun rest _ s'=>s'=s∧∀e∈rest,e∈es.toList) _ ?_ ?_ _ _ ⟨rfl,fun _ h=>h⟩)
 ·rintro e rest b s' ⟨rfl,hr⟩
  obtain⟨a,ea,ta⟩:=hq e (hr e (List.mem_cons_self ..))
  have hf:=hh e (hr e (List.mem_cons_self ..))
  have eO:¬((es.filter (·.hash==e.hash)).size>1):=by omega
  rw[ea]
  unfold Builtin.Dict.quietEq
  refine wpAny_bind (wpAny_bind (wpAny_specialOf ta F.slot_tuple_eq.lookup (wpAny_pure ?_)))
  simp only[eO,if_false]
  have:(some (Value.builtin "tuple.__eq__")==some (Value.builtin "object.__eq__"))=false:=by decide
  simp only[this,Bool.not_false,if_true]
  exact wpAny_pure ⟨rfl,fun x hx=>hr x (List.mem_cons_of_mem _ hx)⟩
 ·rintro b s' ⟨rfl,_⟩
  exact wpAny_pure h
theorem oD{nm:String}{d o:Addr}{xs ys:List (K×Addr×Value)}{Q:Unit→Shared→Prop}(hu:knd.room A)(N_:d≠o)(Qe:(o==sysModules)=false)(hd:s.heap.DictOfH knd d xs)(ho:s.heap.DictOfH knd o ys)
 (PU:∀{h:Heap}{k:K}{a:Addr},knd.is h k a→∃ob,h.get? a=some ob∧ob.cls= .type "tuple")(hh:xs=[]→(ys.map fun y=>knd.hash y.1).Nodup)(hsz:xs.length+ys.length≤sizeLine)
 (hQ:∀h',h'.DictOfH knd d (cR xs ys)→Heap.SameBut d s.heap h'→Q () {s with heap:=h'}):wpAny (model prog w) A (Builtin.Dict.mergeDict nm d o) Q E s:=by
 obtain⟨od,O1,OZ,sA,wC,ik,Pt,Q8,Ea⟩:=id hd
 obtain⟨oo,wX,O0,JR,Q4,zK,AQ,Mr,w6⟩:=id ho
 have hlen:=size_of_entries AQ
 unfold Builtin.Dict.mergeDict
 rw[if_neg (by simpa using N_)]
 unfold Builtin.Dict.showsAll
 rw[if_neg (by rw[Qe];exact Bool.false_ne_true)]
 refine wpAny_bind (wpAny_pure (wpAny_bind (wpAny_dictEntries JR zK ?_)))
 have loop:∀(body:Nat→PUnit→Sem (ForInStep PUnit)),body=(fun i (_:PUnit)=>(do
       let l'←dictEntries o
       match l'[i]? with
        |some e=>do
         holding [e.key,e.val] (dictSetHashed d e.key e.hash e.val)
         let Bh←dictEpoch o
         if (Bh !=O0)=true then do (unsupported (toString nm++toString ":source-changed-during-callback"):Sem PUnit);pure (ForInStep.yield PUnit.unit) else pure (ForInStep.yield PUnit.unit)
        |_=>do
         (unsupported "internal:dict-merge":Sem PUnit)
         pure (ForInStep.yield PUnit.unit):Sem (ForInStep PUnit)))→wpAny (model prog w) A (forIn [:wX.size] PUnit.unit body) (fun _ s'=>Q () s') E s:=by
  rintro _ rfl
  rw[Std.Legacy.Range.forIn_eq_forIn_range']
  simp only[Std.Legacy.Range.size,Nat.sub_zero,Nat.add_sub_cancel,Nat.div_one]
  refine wpAny_forIn_list _ (fun rest _ s'=>∃h' i,s'={s with heap:=h'}∧rest=List.range' i (wX.size - i)∧i≤wX.size∧h'.DictOfH knd d (cR xs (ys.take i))∧h'.get? o=some oo∧Heap.SameBut d s.heap h') _ ?_ ?_ _ _
   ⟨s.heap,0,rfl,by simp,Nat.zero_le _,by simpa[cR] using hd,JR,Heap.SameBut.refl _ _⟩
  ·rintro x rest b s' ⟨h',i,rfl,hr,hi,lA,G_,w_⟩
   have eO:i<wX.size:=by
    by_cases h:i<wX.size
    ·exact h
    ·rw[show wX.size - i=0 by omega] at hr;simp at hr
   rw[show wX.size - i=(wX.size - (i+1))+1 by omega,List.range'_succ] at hr
   injection hr with h1 h2
   subst h1
   refine wpAny_bind (wpAny_dictEntries G_ zK ?_)
   obtain⟨y,hy⟩:∃y,ys[x]? =some y:=⟨_,List.getElem?_eq_getElem (by omega)⟩
   rw[entry_at AQ x,hy]
   have P_:(cR xs (ys.take x)).length≤sizeLine:=by
    have e1:=mf (ys.take x) xs
    rw[List.length_take] at e1
    omega
   have PV:knd.is h' y.1 y.2.1:=knd.keeps (Mr y (List.mem_of_getElem? hy)) sA ik w_
   refine wpAny_bind (wpAny_holding (pA hu PV lA P_ fun NU Mf JV=>?_))
   have Gg:NU.get? o=some oo:=(JV.2 o (Ne.symm N_)).trans G_
   refine wpAny_bind (wpAny_dictEpoch Gg zK ?_)
   rw[if_neg (by simp)]
   exact wpAny_pure ⟨NU,x+1,rfl,h2,eO,by rw[sM hy];exact Mf,Gg,w_.trans JV⟩
  ·rintro b s' ⟨h',i,rfl,hr,hi,lA,G_,w_⟩
   have zM:i=wX.size:=by
    by_cases h:i<wX.size
    ·rw[show wX.size - i=(wX.size - (i+1))+1 by omega,List.range'_succ] at hr;exact nomatch hr
    ·omega
   refine hQ h' ?_ w_
   rw[zM,hlen,List.take_length] at lA;exact lA
 have go:wpAny (model prog w) A (do
  let Jm←dictEpoch o
  let l←dictEntries o
  forIn [:l.size] PUnit.unit fun i (_:PUnit)=>(do
   let l'←dictEntries o
   match l'[i]? with
    |some e=>do
     holding [e.key,e.val] (dictSetHashed d e.key e.hash e.val)
     let Bh←dictEpoch o
     if (Bh !=Jm)=true then do (unsupported (toString nm++toString ":source-changed-during-callback"):Sem PUnit);pure (ForInStep.yield PUnit.unit) else pure (ForInStep.yield PUnit.unit)
    |_=>do
     (unsupported "internal:dict-merge":Sem PUnit)
     pure (ForInStep.yield PUnit.unit):Sem (ForInStep PUnit))
  pure ()) Q E s:=by
  refine wpAny_bind (wpAny_dictEpoch JR zK (wpAny_bind (wpAny_dictEntries JR zK (wpAny_bind ?_))))
  exact wpAny_mono (loop _ rfl) (fun _ _ h=>wpAny_pure h) fun _ _ h=>h
 dsimp only
 split
 ·refine wpAny_bind (wpAny_dictEntries sA ik ?_)
  split
  ·rename_i Mg
   have Hd:xs=[]:=by
    have h0:O1= #[]:=Array.isEmpty_iff.mp Mg
    have:=size_of_entries Pt
    rw[h0] at this
    exact List.length_eq_zero_iff.mp (by simpa using this.symm)
   subst Hd
   have Qb:=hh rfl
   refine wpAny_bind (sk JR zK (fun e he=>?_) (fun e he=>?_) ?_)
   ·rw[AQ] at he
    obtain⟨y,hy,rfl⟩:=List.mem_map.mp he
    obtain⟨ob,h1,h2⟩:=PU (Mr y hy)
    exact⟨y.2.1,rfl,ob,h1,h2⟩
   ·have:(wX.filter (·.hash==e.hash)).size=((ys.map fun y=>knd.hash y.1).filter (· ==e.hash)).length:=by
     rw[←Array.length_toList,Array.toList_filter,AQ,List.filter_map,List.filter_map,List.length_map,List.length_map]
     rfl
    rw[this]
    have hc:=List.nodup_iff_count.mp Qb e.hash
    rw[List.count_eq_countP,List.countP_eq_length_filter] at hc
    exact hc
   ·have hm:cR ([]:List (K×Addr×Value)) ys=ys:=by
     rw[mh ys [] (by simpa using w6)];rfl
    rw[hm] at hQ
    split
    ·have Qo:wX.size≤sizeLine+1:=by simp at hsz;omega
     refine wpAny_bind (wpAny_updateDictKeysTo sA ik (wpAny_pure (hQ _ ⟨_,_,OZ+1,Heap.get?_update_self _ sA (Obj.isFreed_of_dict (Obj.data_mapDictKeys ik _)),wC.mapDictKeys _,Obj.data_mapDictKeys ik _,AQ,fun x hx=>?_,w6⟩ (Heap.SameBut.update ..))) Qo)
     exact knd.keeps (Mr x hx) sA ik (Heap.SameBut.update ..)
    ·rename_i il
     have h0:wX= #[]:=Array.isEmpty_iff.mp (by simpa using il)
     have P5:ys=[]:=List.length_eq_zero_iff.mp (by rw[←hlen,h0];rfl)
     subst P5
     exact wpAny_pure (hQ _ hd (Heap.SameBut.refl _ _))
  ·exact go
 ·exact go
end
end L3
namespace L3
open PySem PySem.Spec L2
open PyProof.Rows hiding St
theorem FI{P:Program}{w:World}{h:Heap}{k:List Key}{a:Addr}(h1:(tupleKind (aX P w)).is h k a):∃ob,h.get? a=some ob∧ob.cls= .type "tuple":=by
 obtain⟨ob,aB,n,q1,q2,_⟩:=h1
 exact⟨ob,q1,q2⟩
def iF(aw more:List (List Key×V)):List (List Key×V):=more.foldl (fun acc kv=>putK acc kv.1 kv.2) aw
theorem yN{H:Hp}:∀{more:List (List Key×V)}{ys:List (List Key×Addr×Value)},KT H more ys→∀{aw:List (List Key×V)}{xs:List (List Key×Addr×Value)},KT H aw xs→KT H (iF aw more) (cR xs ys)
 |_,_, .nil,_,_,q=>q
 |_,_, .cons h t,aw,xs,r=>by
  refine yN t ?_
  have:=KT.put r _ h.2.1 h.2.2
  rw[h.1] at this
  show KT H (putK aw _ _) (storedH xs _ _ _)
  rw[h.1]
  exact this
theorem oj:∀(more aw:List (List Key×V)),(iF aw more).length≤aw.length+more.length
 |[],aw=>Nat.le_refl _
 |p::r,aw=>by
  have h1:=oj r (putK aw p.1 p.2)
  have h2:=eQ aw p.1 p.2
  show (iF (putK aw p.1 p.2) r).length≤_
  rw[List.length_cons];omega
def fU(k:List Int):Int:=reduceHash (Builtin.Tuple.tupleHashOf (k.map hashInt))
theorem By{P:Program}{w:World}(k:List Int):(tupleKind (aX P w)).hash (oe k)=fU k:=by
 show reduceHash (Builtin.Tuple.tupleHashOf ((oe k).map (J_ w)))=_
 unfold fU oe
 rw[List.map_map]
 rfl
section
variable{X:Cx}{pins:List (Addr×Obj)}{σ:St}{H:Hp}{s:Shared}{a b:Addr}{A:Around}{E:Value→Shared→Prop}
theorem A9{aw more:List (List Key×V)}{ks:List (List Int)}{Q:Value→Shared→Prop}(hu:A.units+2<cLine)(I:Inv X pins σ H s)(ha:H a=some (.dT aw))(hb:Rd H b (.dT more))(GX:a≠b)(hk:more.map (·.1)=ks.map oe)
 (hh:aw=[]→(ks.map fU).Nodup)(hz:aw.length+more.length≤sizeLine)(h:∀s',Inv X pins σ (upd H a (.dT (iF aw more))) s'→Q .none s'):
 wpAny (model X.prog X.w) A (call (.builtin "dict.update") [.ref a, .ref b]) Q E s:=by
 obtain⟨z1,lo1,xs,KQ,NN⟩:=Bd I.hok ha
 obtain⟨z2,QJ,ys,Fl,zD⟩:=j9 I.hok hb
 have l1:=Paired.length KQ
 have l2:=Paired.length Fl
 have hT:=NN.typeIs
 refine wpAny_call_entry PySem.F.slot_dict_update hT PySem.F.entry_dict_update ?_ (PySem.F.args_dict_update_2 _ _)
 unfold Builtin.«dict.update»
 refine wpAny_bind ?_
 unfold Builtin.Dict.selfAndRest
 refine wpAny_bind (wpAny_notOrdered_dict hT ?_)
 show wpAny _ _ (pure (a,[Value.ref b])) _ _ s
 refine wpAny_pure ?_
 show wpAny _ _ (Builtin.Dict.updateFrom "dict.update" a (.ref b) [] .none) _ _ s
 unfold Builtin.Dict.updateFrom
 refine wpAny_bind (wpAny_typeOf zD.typeIs ?_)
 rw[if_neg (by decide)]
 refine wpAny_bind ?_
 unfold Builtin.Dict.merge
 refine wpAny_bind ?_
 unfold Builtin.Dict.readDirectly
 refine wpAny_bind (wpAny_isInstance zD.typeIs isSubtype_dict_dict ?_)
 simp only[Bool.not_true,Bool.false_eq_true,if_false]
 refine wpAny_bind (wpAny_specialOf zD.typeIs PySem.F.slot_dict_iter.lookup (wpAny_pure ?_))
 simp only[beq_self_eq_true,if_true]
 refine wpAny_bind (wpAny_pure ?_)
 refine oD (knd:=tupleKind (aX X.prog X.w)) (show A.in1.units<cLine by show A.units+1<cLine;omega) GX QJ NN zD FI (fun e0=>?_) (by omega) fun h' A_ w_=>?_
 ·have e1:aw=[]:=List.length_eq_zero_iff.mp (by rw[l1,e0];rfl)
  have:=hh e1
  have e2:(ys.map fun y=>(tupleKind (aX X.prog X.w)).hash y.1)=ks.map fU:=by
   have e3:more.map (·.1)=ys.map (·.1):=mM (fun _ _ r=>r.1) Fl
   rw[show (fun y:List Key×Addr×Value=>(tupleKind (aX X.prog X.w)).hash y.1)=(tupleKind (aX X.prog X.w)).hash∘(·.1) from rfl,←List.map_map,←e3,hk,List.map_map]
   exact List.map_congr_left fun k _=>By k
  rw[e2];exact this
 ·show wpAny _ _ (Builtin.Dict.addKeywords a []>>=_) _ _ _
  refine wpAny_bind (wpAny_pure (wpAny_pure ⟨.none,rfl,h _ ?_⟩))
  obtain⟨q,es,ep,hq,h2,h3,h4,_,h5⟩:=A_
  have hl:(iF aw more).length≤sizeLine:=by have:=oj more aw;omega
  refine j8 I (t':=s.toks) (by rw[ha];exact True.intro) w_ ⟨q,hq⟩ ⟨hl,lo1,_,(yN Fl KQ).keeps fun c ys ec=>?_,q,es,ep,hq,h2,h3,h4,h5⟩
  rw[ax (B5 ec ha (fun z=>nomatch z))]
  exact ec
end
def b6(ks:List (List Key))(ds:List D):List (List Key)→List D→List (List Key)×List D
 |k::ks',d::ds'=>b6 (df ks ds k) (cu ks ds k d) ks' ds'
 |_,_=>(ks,ds)
def Dv(ks:List (List Key))(ds:List D):D→Option C
 | .dct ks' ds'=>match fG ks' with
   |some ns=>if ds.length+ds'.length≤lim∧(ks.isEmpty=true→(ns.map fU).Nodup) then some (.dct (b6 ks ds ks' ds').1 (b6 ks ds ks' ds').2) else none
   |none=>none
 |_=>none
theorem oB{K:W.Frag}{F:Hp}:∀{ks':List (List Key)}{ds':List D}{vs':List V}{ks:List (List Key)}{ds:List D}{vs:List V},DenL K F ds' vs'→ks'.length=ds'.length→DenL K F ds vs→ks.length=ds.length→
 ∃ws,iF (ks.zip vs) (ks'.zip vs')=(b6 ks ds ks' ds').1.zip ws∧DenL K F (b6 ks ds ks' ds').2 ws∧(b6 ks ds ks' ds').1.length=(b6 ks ds ks' ds').2.length
 |[],[],vs',ks,ds,vs,h',_,h,hl=>⟨vs,rfl,h,hl⟩
 |k::ks',d::ds',vs',ks,ds,vs,⟨v,r,e,h1,h2⟩,Ge,h,hl=>by
  subst e
  obtain⟨ws,e1,e2,e3⟩:=tN (K:=K) (F:=F) h1 k h hl
  obtain⟨us,q1,q2,q3⟩:=oB (ks':=ks') (ds':=ds') (vs':=r) h2 (by simpa using Ge) e2 e3
  refine⟨us,?_,q2,q3⟩
  show iF (putK (ks.zip vs) k v) (ks'.zip r)=_
  rw[e1]
  exact q1
 |[],_::_,_,_,_,_,_,Ge,_,_=>by simp at Ge
 |_::_,[],_,_,_,_,_,Ge,_,_=>by simp at Ge
theorem CY{κ:Type}[DecidableEq κ]{ks:List κ}{ds:List D}{k:κ}{d:D}(hl:ks.length=ds.length):(cu ks ds k d).length≤ds.length+1:=by
 unfold cu
 split
 ·rw[iT ks ds k d hl];omega
 ·simp
theorem CZ{κ:Type}[DecidableEq κ]{ks:List κ}{ds:List D}{k:κ}{d:D}(hl:ks.length=ds.length):(df ks ds k).length=(cu ks ds k d).length:=by
 unfold cu df
 split
 ·rw[iT ks ds k d hl];exact hl
 ·simp[hl]
theorem oC:∀{ks':List (List Key)}{ds':List D}{ks:List (List Key)}{ds:List D},ks.length=ds.length→(b6 ks ds ks' ds').2.length≤ds.length+ds'.length
 |[],ds',ks,ds,_=>by show ds.length≤_;omega
 |_::_,[],ks,ds,_=>by show ds.length≤_;simp
 |k::ks',d::ds',ks,ds,hl=>by
  have h1:=oC (ks':=ks') (ds':=ds') (ks:=df ks ds k) (ds:=cu ks ds k d) (CZ hl)
  have h2:=CY (k:=k) (d:=d) hl
  show (b6 (df ks ds k) (cu ks ds k d) ks' ds').2.length≤_
  rw[List.length_cons];omega
section
variable{X:Cx}{Xw:Nat→Hp→Prop}{o e f:Expr}{δ δo δe δf:DE}{pos p apos aT:Pos}{x:Str}{i:Nat}
def Au(i:Nat)(δ:DE):DS:=fun ρ=>match xE ρ i with
 |some (.dct ks ds)=>δ ρ>>=fun d=>match Dv ks ds d with
  |some c'=>M.ret (.nx (ρ.set i (some (.ow c'))))
  |none=>M.stuck
 |_=>M.stuck
theorem HW{td ty:TE}(hu:X.A.units+2<cLine)(ho:PE X o td)(he:PE X e ty)(m:M1 X o "update" apos e aT):
 PE X (.Call (.Attribute o "update" apos) [e] [] aT) (fun σ H Q=>td σ H fun x H1=>∃a,x= .ref a∧IV H1 a∧ty σ H1 fun y H2=>∃(b:Addr) (aw more:List (List Key×V)) (ks:List (List Int)),y= .ref b∧H2 a=some (.dT aw)∧Rd H2 b (.dT more)∧a≠b∧more.map (·.1)=ks.map oe∧(aw=[]→(ks.map fU).Nodup)∧aw.length+more.length≤sizeLine∧Q .non (upd H2 a (.dT (iF aw more)))):=by
 intro pins s σ H Q I h
 refine wpAny_Call_method m.base m.few m.line PySem.F.plainAttrs_dict PySem.F.slot_dict_update (by rfl) (bN (ho pins s σ H _ I h) fun u s1 ⟨x,H1,I1,rx,a,ex,d,q1⟩=>?_)
 subst ex
 obtain rfl:u=Value.ref a:=rx
 obtain⟨t1,t2,_⟩:=xa I1 d
 refine⟨t1,t2,?_⟩
 rw[m.trees]
 refine Calls.callWith_builtin rfl (Calls.evalArgs_plain (Calls.spliced_cons (bN (he pins s1 σ H1 _ I1 q1) fun iv s2 ⟨y,H2,I2,ry,b,aw,more,ks,ey,k1,k2,k3,k4,k5,k6,q2⟩=>Calls.spliced_nil ?_)))
 subst ey
 obtain rfl:iv=Value.ref b:=ry
 exact A9 hu I2 k1 k2 k3 k4 k5 k6 fun s3 I3=>⟨.non,_,I3,rfl,q2⟩
theorem Fd(hu:X.A.units+64<cLine)(hv:PE X (.Name x p) (pG i))(he:PD X Xw e δ)(m:M1 X (.Name x p) "update" apos e aT)(hs:swapsWith (.Call (.Attribute (.Name x p) "update" apos) [e] [] aT) none pos.line X.env=pure false:=by rfl):
 gL X Xw (.Expr (.Call (.Attribute (.Name x p) "update" apos) [e] [] aT) pos) (Au i δ):=fun F₀ H₀=>PS.weak (nA (HW (by omega) hv he m) hs) fun D σ H ⟨F,ρ,s,w⟩=>by
 unfold Au at w
 split at w
 ·rename_i ks ds Lx
  have hi:=rk Lx
  obtain⟨v,J0,a,oh,rfl,hH,hF,vs,rfl,hd,hl,hz⟩:=s.st.den i _ hi
  refine⟨.ref a,J0,a,rfl, .inr ⟨_, .inl hH⟩,F,ρ,s.st,?_⟩
  rcases(δ ρ).cs with q | ⟨n,q⟩ | ⟨d,q⟩
  ·rw[q] at w;exact w.elim
  ·rw[q] at w⊢;exact fun F' H' e'=>w F' H' (s.ext.trans e')
  ·rw[q] at w⊢
   intro u H1 F1 e1 hq
   have w:WPS X.K Xw F₀ H₀ (match Dv ks ds d with | some c'=>M.ret (.nx (ρ.set i (some (.ow c')))) | none=>M.stuck) D:=w
   cases d with
   |dct ks' ds'=>
    obtain⟨b,ob,vs',rfl,k2,k3,k4,k5⟩:=hq
    cases hc:Dv ks ds (.dct ks' ds') with
    |none=>rw[hc] at w;exact w.elim
    |some c'=>
     rw[hc] at w
     have hc:(match fG ks' with | some ns=>if ds.length+ds'.length≤lim∧(ks.isEmpty=true→(ns.map fU).Nodup) then some (C.dct (b6 ks ds ks' ds').1 (b6 ks ds ks' ds').2) else none | none=>none)=some c':=hc
     cases hn:fG ks' with
     |none=>rw[hn] at hc;cases hc
     |some ns=>
      rw[hn] at hc
      have hc:(if ds.length+ds'.length≤lim∧(ks.isEmpty=true→(ns.map fU).Nodup) then some (C.dct (b6 ks ds ks' ds').1 (b6 ks ds ks' ds').2) else none)=some c':=hc
      split at hc
      ·rename_i JB
       cases hc
       have N8:=DenL.mono e1.ff hd
       have l1:=N8.len
       have l2:=k3.len
       have GX:a≠b:=fun z=>by
        have:=e1.old hH (fun _ z=>nomatch z)
        rw[hF,z,k2] at this
        cases this
       obtain⟨ws,m1,m2,m3⟩:=oB k3 k4 N8 hl
       refine⟨b,ks.zip vs,ks'.zip vs',ns,rfl,e1.hh _ _ hH, .inr ⟨ob,e1.fh _ _ k2⟩,GX,by rw[ju (by rw[k4];exact l2),lC hn],fun z=>JB.2 ?_,?_,?_⟩
       ·have:=ju (a:=ks) (b:=vs) (by rw[hl];exact l1)
        rw[z] at this
        rw[←this];rfl
       ·rw[List.length_zip,List.length_zip]
        have:=eX
        omega
       ·rw[m1]
        exact w σ F1 _ ((s.ext' e1).chg (c₀:= .dct (b6 ks ds ks' ds').1 (b6 ks ds ks' ds').2) hi J0 ⟨ws,rfl,m2,m3,by have:=oC (ks':=ks') (ds':=ds') hl;omega⟩)
      ·cases hc
   |_=>exact w.elim
 ·exact w.elim
end
section
variable{X:Cx}{Xw:Nat→Hp→Prop}{o e f:Expr}{δ δo δe δf:DE}{δs:DA}{pos p apos aT:Pos}{x:Str}{i:Nat}
def BI:D→Bool
 | .dct _ _=>true
 | .dci _ _=>true
 |_=>false
theorem yG{K:W.Frag}{F H:Hp}{d:D}{x:V}(s:Same F H)(hd:Den K F d x)(e:BI d=true):∃a,x= .ref a∧IV H a:=by
 cases d with
 |dct ks ds=>obtain⟨a,ob,vs,rfl,h2,_⟩:=hd;exact⟨a,rfl, .inr ⟨_, .inr ⟨ob,s _ _ h2⟩⟩⟩
 |dci ks ds=>obtain⟨a,ob,vs,rfl,h2,_⟩:=hd;exact⟨a,rfl, .inl ⟨_, .inr ⟨ob,s _ _ h2⟩⟩⟩
 |_=>cases e
def getM(d k v:D):M D:=match AK d k with
 |some (some x)=>M.ret x
 |some none=>M.ret v
 |none=>M.stuck
def Jf(δo δe:DE):DE:=fun ρ=>δo ρ>>=fun d=>if BI d then δe ρ>>=fun k=>getM d k .non else M.stuck
def uL(δo δe δf:DE):DE:=fun ρ=>δo ρ>>=fun d=>if BI d then δe ρ>>=fun k=>δf ρ>>=fun v=>getM d k v else M.stuck
theorem uZ{F H:Hp}{d k v:D}{a:Addr}{y z:V}{Q:VK}(s:Same F H)(q1:Den X.K F d (.ref a))(q2:Den X.K F k y)(q3:Den X.K F v z)(w:WP X.K Xw F H (getM d k v) Q):∃ov,jK H a y ov∧Q (ov.getD z) H:=by
 unfold getM at w
 cases wB:AK d k with
 |none=>rw[wB] at w;exact w.elim
 |some o'=>
  rw[wB] at w
  obtain⟨a',ov,zz,h2,h3,h4⟩:=rZ s q1 q2 wB
  cases zz
  refine⟨ov,h2,?_⟩
  cases o' with
  |none=>
   cases ov with
   |none=>exact WP.now w s q3
   |some _=>cases h3
  |some d'=>
   obtain⟨v,rfl,hv⟩:=h4 d' rfl
   exact WP.now w s hv
theorem LK(hu:X.A.units+64<cLine)(ho:PD X Xw o δo)(he:PD X Xw e δe)(m:M1 X o "get" apos e aT):PD X Xw (.Call (.Attribute o "get" apos) [e] [] aT) (Jf δo δe):=
 PE.weak (CG (by omega) ho he m) fun σ H Q ⟨F,ρ,s,w⟩=>by
  refine⟨F,ρ,s,WP.mono (WP.bind w) fun x H1 ⟨F1,d,e1,q1,w1⟩=>?_⟩
  split at w1
  ·rename_i hd
   obtain⟨a,rfl,M0⟩:=yG e1.fh q1 hd
   refine⟨a,rfl,M0,F1,ρ,s.ext e1,WP.mono (WP.bind w1) fun y H2 ⟨F2,k,e2,q2,w2⟩=>?_⟩
   exact uZ (v:= .non) (z:= .non) e2.fh (Den.mono e2.ff q1) q2 (show V.non=V.non from rfl) w2
  ·exact w1.elim
theorem EU(hu:X.A.units+64<cLine)(ho:PD X Xw o δo)(he:PD X Xw e δe)(hf:PD X Xw f δf)(m:M2 X o "get" apos e f aT):PD X Xw (.Call (.Attribute o "get" apos) [e,f] [] aT) (uL δo δe δf):=
 PE.weak (CH (by omega) ho he hf m) fun σ H Q ⟨F,ρ,s,w⟩=>by
  refine⟨F,ρ,s,WP.mono (WP.bind w) fun x H1 ⟨F1,d,e1,q1,w1⟩=>?_⟩
  split at w1
  ·rename_i hd
   obtain⟨a,rfl,M0⟩:=yG e1.fh q1 hd
   refine⟨a,rfl,M0,F1,ρ,s.ext e1,WP.mono (WP.bind w1) fun y H2 ⟨F2,k,e2,q2,w2⟩=>?_⟩
   refine⟨F2,ρ,(s.ext e1).ext e2,WP.mono (WP.bind w2) fun z H3 ⟨F3,v,e3,q3,w3⟩=>?_⟩
   exact uZ e3.fh (Den.mono e3.ff (Den.mono e2.ff q1)) (Den.mono e3.ff q2) q3 w3
  ·exact w1.elim
end
section
variable{X:Cx}{Xw:Nat→Hp→Prop}{a b e O2:Expr}{δ δa δb δs:DE}{pos p2:Pos}
def zI(neg:Bool):D→D→M D
 | .raw _,_=>M.stuck
 | .non, .non=>M.ret (.bl (!neg))
 |_, .non=>M.ret (.bl neg)
 |_,_=>M.stuck
theorem Eh{K:W.Frag}{neg:Bool}{g:V→Bool}(hg:∀v,g v=if neg then !decide (v= .non) else decide (v= .non)):ux K (fun x y H Q=>y= .non∧Q (.bl (g x)) H) (zI neg):=fun Xw F H x y dx dy Q s hx hy w=>by
 unfold zI at w
 split at w
 ·exact w.elim
 ·refine⟨hy,?_⟩
  cases (show x=_ from hx)
  rw[hg]
  cases neg<;>exact WP.now w s rfl
 ·rename_i h1 h2
  refine⟨hy,?_⟩
  have J1:x≠ .non:=by
   rintro rfl
   cases dx with
   |raw v=>exact h1 v rfl
   |non=>exact h2 rfl
   |bl _=>cases (show _=_ from hx)
   |int _=>cases (show _=_ from hx)
   |str _=>cases (show _=_ from hx.1)
   |exc _=>obtain⟨_,z,_⟩:=hx;cases z
   |scr _=>obtain⟨_,z,_⟩:=hx;cases z
   |tup _=>obtain⟨_,_,z,_⟩:=hx;cases z
   |lst _=>obtain⟨_,_,z,_⟩:=hx;cases z
   |dct _ _=>obtain⟨_,_,_,z,_⟩:=hx;cases z
   |dci _ _=>obtain⟨_,_,_,z,_⟩:=hx;cases z
  rw[hg,decide_eq_false J1]
  cases neg<;>exact WP.now w s rfl
 ·exact w.elim
theorem y8(ha:PD X Xw a δa)(hb:PD X Xw b δb):k9 X Xw (.Compare a [.IsNot] [b] pos) (bS (d2 (zI true) δa δb)):=dH EI (Eh fun _=>rfl) ha hb
end
section
variable{prog:Program}{w:World}{A:Around}{E:Value→Shared→Prop}{s:Shared}
end
def sv:List Nat→FP
 |[]=>Jt
 |i::is=>FZ (Bs i) (sv is)
def xS:List Nat→List D→a5→a5
 |i::is,d::ds,ρ=>xS is ds (ρ.set i (some (.fz d)))
 |_,_,ρ=>ρ
def pb(is:List Nat):D→a5→Option a5
 | .tup ds,ρ=>if ds.length=is.length then some (xS is ds ρ) else none
 |_,_=>none
theorem rO{K:W.Frag}{F₀ H₀ F H:Hp}{Q:St→Hp→Prop}:∀(is:List Nat) (ds:List D) (vs:List V) (σ:St) (ρ:a5),ds.length=is.length→StOk K F₀ H₀ F H σ ρ→DenL K F ds vs→(∀σ',StOk K F₀ H₀ F H σ' (xS is ds ρ)→Q σ' H)→sv is vs σ H Q
 |[],[],vs,σ,ρ,_,s,h,k=>⟨h,k σ s⟩
 |i::is,d::ds,vs,σ,ρ,hl,s,⟨v,r,e,h1,h2⟩,k=>by
  subst e
  exact⟨v,r,rfl,rO is ds r _ _ (by simpa using hl) (s.set h1) h2 k⟩
 |[],_::_,_,_,_,hl,_,_,_=>by simp at hl
 |_::_,[],_,_,_,hl,_,_,_=>by simp at hl
theorem tO{K:W.Frag}{is:List Nat}:AS K (GU K is.length (sv is)) (pb is):=fun F₀ H₀ F H σ ρ ρ' d v Q s q e k=>by
 unfold pb at e
 split at e
 ·rename_i ds
  split at e
  ·rename_i hl
   cases e
   obtain⟨a,vs,rfl,hs,hd,_⟩:=q
   exact⟨a,vs,rfl,SqT.of (s.st.fh _ _ hs),by rw[←hd.len];exact hl,rO is ds vs σ ρ hl s hd k⟩
  ·cases e
 ·cases e
theorem Fw:∀{σ' σ:St},1<σ'.length→σ'.drop 2=σ→∀v1 v2:V,(σ'.set 0 (some v1)).set 1 (some v2)=[v1,v2].map some++σ
 |x1::x2::r,_,_,hd,v1,v2=>by subst hd;rfl
 |[],_,h,_,_,_=>by simp at h
 |[_],_,h,_,_,_=>by simp at h
theorem Eu:∀{ds:List D},ds.length=2→∃a b,ds=[a,b]
 |[a,b],_=>⟨a,b,rfl⟩
 |[],h=>by simp at h
 |[_],h=>by simp at h
 |_::_::_::_,h=>by simp at h
theorem Dq{X:Cx}{x y:Str}{px py pt:Pos}{x1:Nat}{σ:St}(hN:X.N.Nodup)(h0:X.N[0]? =some x)(h1:X.N[1]? =some y)(hx:X.env.scope.names.lookup x=some .local)(hy:X.env.scope.names.lookup y=some .local)(hc:X.calm=true)
 (hn:(assignEach [Expr.Name x px, .Name y py] X.env).length=2:=by rfl)(pT:(assignEach [Expr.Name x px, .Name y py] X.env).findIdx? (·.1)=none:=by rfl)
 (hs:(assignEach [Expr.Name x px, .Name y py] X.env).map (·.2)=assign (.Name x px) X.env::(assignEach [Expr.Name y py] X.env).map (·.2):=by rfl)(IJ:(assignEach [Expr.Name y py] X.env).map (·.2)=assign (.Name y py) X.env::(assignEach [] X.env).map (·.2):=by rfl):zk X (.Tuple [.Name x px, .Name y py] x1 pt) 2 σ:=fun pins s σ' F H d ts v u I fh hd rv q e=>by
 cases d with
 |tup ds=>
  have e:(if ds.length=2 then M.ret ds else M.stuck)=M.ret ts:=e
  split at e
  ·rename_i hl
   obtain rfl:=fb e
   obtain⟨d1,d2,rfl⟩:=Eu hl
   ·obtain⟨a,vs,rfl,w_,lA,_⟩:=q
    obtain⟨v1,v2,rfl,q1,q2⟩:=lA.two
    have G:PG X (.Tuple [.Name x px, .Name y py] x1 pt) (GU X.K 2 (sv [0,1])):=tK hc (eT (a7 hN h0 (.inl hx) (.inr hx)) (eT (a7 hN h1 (.inl hy) (.inr hy)) nz IJ) hs) hn pT
    refine bN (G pins s σ' H (.ref a) u (fun σ2 H2=>H2=H∧σ2=(σ'.set 0 (some v1)).set 1 (some v2)) I rv ⟨a,[v1,v2],rfl,SqT.of (fh _ _ w_),rfl,v1,[v2],rfl,v2,[],rfl,rfl,rfl,rfl⟩) fun _ s2 ⟨σ2,H2,I2,e1,e2⟩=>?_
    subst e1 e2
    refine⟨[v1,v2],?_, .cons q1 (.cons q2 .nil)⟩
    have hl:1<σ'.length:=by rw[I.len];exact(List.getElem?_eq_some_iff.mp h1).1
    have:=Fw hl (show σ'.drop 2=σ from hd) v1 v2
    rw[←this]
    exact I2
  ·exact(fR e).elim
 |_=>exact(fR e).elim
section
variable{prog:Program}{w:World}{A:Around}{E:Value→Shared→Prop}{s:Shared}
end
section
variable{prog:Program}{w:World}{A:Around}{E:Value→Shared→Prop}{s:Shared}
end
section
variable{X:Cx}{Xw:Nat→Hp→Prop}{a b e e2:Expr}{δa δb:DE}{δs:DA}{p pos:Pos}
theorem wg{α β γ:Type}(f:α→β)(g:α→γ):∀l:List α,(l.map f).zip (l.map g)=l.map fun x=>(f x,g x)
 |[]=>rfl
 |a::l=>by rw[List.map_cons,List.map_cons,List.zip_cons_cons,wg f g l];rfl
end
mutual
def FU:D→Bool
 | .non=>true
 | .bl _=>true
 | .int _=>true
 | .str _=>true
 | .tup ds=>uM ds
 | .lst ds=>uM ds
 | .raw _=>false
 | .exc _=>false
 | .scr _=>false
 | .dct _ _=>false
 | .dci _ _=>false
def uM:List D→Bool
 |[]=>true
 |d::ds=>FU d&&uM ds
end
def vG(ρ:a5):Bool:=ρ.all fun x=>match x with
 |some (.ow (.lst _))=>false
 |_=>true
theorem Ci{ρ:a5}{i:Nat}{ds:List D}(h:vG ρ=true)(e:ρ[i]? =some (some (.ow (.lst ds)))):False:=by
 have:=List.all_eq_true.mp h _ (List.mem_of_getElem? e)
 cases this
section
variable{K:W.Frag}{F H F' H':Hp}{σ:St}{ρ:a5}{h:Heap}{b:Addr}
theorem OwnAt.dict(S:StE K F H σ ρ)(hd:vG ρ=true)(p:OwnAt σ ρ b):∃o,H b=some o∧((∃x,o= .dT x)∨∃x,o= .dK x):=by
 obtain⟨i,c,h1,h2⟩:=p
 obtain⟨v,h3,a,o,rfl,h4,h5,h6⟩:=S.den i _ h1
 rw[h3] at h2
 cases h2
 refine⟨o,h4,?_⟩
 cases c with
 |lst ds=>exact(Ci hd h1).elim
 |dct ks ds=>obtain⟨vs,rfl,_⟩:=h6;exact .inl ⟨_,rfl⟩
 |dci ks ds=>obtain⟨vs,rfl,_⟩:=h6;exact .inr ⟨_,rfl⟩
open Classical in
theorem yQ(S:StE K F H σ ρ)(hd:vG ρ=true)(E:Ext (fA σ ρ (refA h (OwnAt σ ρ) H) F) (refA h (OwnAt σ ρ) H) F' H'){a:Addr}{o:HO}(e:F' a=some o)(il:∀q u,o≠ .frz q u):(if OwnAt σ ρ a then none else F' a)=some o:=by
 rw[if_neg,e]
 intro hp
 obtain⟨o',k1,k2⟩:=OwnAt.dict S hd hp
 have k3:fA σ ρ (refA h (OwnAt σ ρ) H) F a=some (mZ ((h.get? a).getD {cls:= .none,data:= .fields #[]}) o'):=by
  unfold fA refA
  rw[if_pos hp,if_pos hp,k1]
  rfl
 have k4:=E.ff a _ k3
 rw[e] at k4
 rcases k2 with⟨x,rfl⟩ | ⟨x,rfl⟩<;>cases k4<;>exact il _ _ rfl
open Classical in
mutual
theorem Ba(S:StE K F H σ ρ)(hd:vG ρ=true)(E:Ext (fA σ ρ (refA h (OwnAt σ ρ) H) F) (refA h (OwnAt σ ρ) H) F' H'):∀{d:D}{v:V},FU d=true→Den K F' d v→Den K (fun b=>if OwnAt σ ρ b then none else F' b) d v
 | .non,_,_,q=>q
 | .bl _,_,_,q=>q
 | .int _,_,_,q=>q
 | .str _,_,_,q=>q
 | .tup ds,_,f,⟨a,vs,h1,h2,h3,h4⟩=>⟨a,vs,h1,yQ S hd E h2 (fun _ _ z=>nomatch z),lr S hd E f h3,h4⟩
 | .lst ds,_,f,⟨a,vs,h1,h2,h3,h4⟩=>⟨a,vs,h1,yQ S hd E h2 (fun _ _ z=>nomatch z),lr S hd E f h3,h4⟩
 | .raw _,_,f,_=>by cases f
 | .exc _,_,f,_=>by cases f
 | .scr _,_,f,_=>by cases f
 | .dct _ _,_,f,_=>by cases f
 | .dci _ _,_,f,_=>by cases f
theorem lr(S:StE K F H σ ρ)(hd:vG ρ=true)(E:Ext (fA σ ρ (refA h (OwnAt σ ρ) H) F) (refA h (OwnAt σ ρ) H) F' H'):∀{ds:List D}{vs:List V},uM ds=true→DenL K F' ds vs→DenL K (fun b=>if OwnAt σ ρ b then none else F' b) ds vs
 |[],_,_,q=>q
 |d::ds,_,f,⟨v,r,h1,h2,h3⟩=>by
  unfold uM at f
  rw[Bool.and_eq_true] at f
  exact⟨v,r,h1,Ba S hd E f.1 h2,lr S hd E f.2 h3⟩
end
end
section
variable{X:Cx}{Xw:Nat→Hp→Prop}{e:Expr}{δ:DE}
end
def Ji(δ:DE):DE:=fun ρ=>noex (δ (wZ ρ))>>=nX
def Gy(τ:DT):DT:=fun ρ=>noex (τ (wZ ρ))
section
variable{X:Cx}{Xw:Nat→Hp→Prop}{st:Stmt}{τ:DS}{is:List Nat}
end
section
variable{X:Cx}{Xw:Nat→Hp→Prop}{a b e o:Expr}{δ δa δb δo:DE}{δl:DA}{pos apos aT:Pos}
theorem zf{x y:Str}(h:x.cps.toList=y.cps.toList):x=y:=by
 obtain⟨⟨a⟩⟩:=x
 obtain⟨⟨b⟩⟩:=y
 cases (show a=b from h)
 rfl
end
def Hj(x:Int):List Int→List Int
 |[]=>[x]
 |y::r=>if x≤y then x::y::r else y::Hj x r
theorem zO(x:Int):∀l,(Hj x l).Perm (x::l)
 |[]=>List.Perm.refl _
 |y::r=>by
  unfold Hj
  split
  ·exact List.Perm.refl _
  ·exact((zO x r).cons y).trans (List.Perm.swap ..)
section
variable{X:Cx}{Xw:Nat→Hp→Prop}{e:Expr}{δs:DA}{pos p:Pos}
theorem qE{K:W.Frag}{F:Hp}:∀{xs:List Int},DenL K F (xs.map D.int) (xs.map V.int)
 |[]=> .nil
 |x::r=> .cons rfl qE
end
section
variable{X:Cx}{Xw:Nat→Hp→Prop}{a b e o k v k' v':Expr}{δ δa δb δo δk δv δk' δv':DE}{δl δs:DA}{pos apos aT p:Pos}
end
section
variable{X:Cx}{Xw:Nat→Hp→Prop}{a b e:Expr}{δ δa δb:DE}{δs:DA}{pos p:Pos}
end
end L3
namespace L3
open PySem PySem.SetTable
def iK(m b:Nat):Nat→Nat×Nat
 |0=>(b % (m+1),b)
 |k+1=>leap m (iK m b k).1 (iK m b k).2
def IS(m i:Nat):Nat:=(i*5+1) % (m+1)
def it(m:Nat):Nat→Nat→Nat
 |0,x=>x
 |n+1,x=>IS m (it m n x)
theorem n9(m:Nat):∀a b x,it m (a+b) x=it m a (it m b x)
 |0,b,x=>by rw[Nat.zero_add];rfl
 |a+1,b,x=>by rw[Nat.add_right_comm];show IS m _=IS m _;rw[n9 m a b x]
theorem J4(m b:Nat):∀k,(iK m b k).2=b / 32 ^ k
 |0=>by simp[iK]
 |k+1=>by
  show (iK m b k).2 / 32=_
  rw[J4 m b k,Nat.div_div_eq_div_mul,Nat.pow_succ]
theorem yE{m b:Nat}(hb:b<2 ^ 64):∀k,(iK m b (k+13)).1=it m k (iK m b 13).1
 |0=>by rw[Nat.zero_add];rfl
 |k+1=>by
  rw[Nat.add_right_comm]
  have hq:(iK m b (k+13)).2 / 32=0:=by
   rw[J4]
   refine Nat.div_eq_of_lt ?_
   refine Nat.lt_of_le_of_lt (m:=b / 32 ^ 13) ?_ ?_
   ·rw[Nat.pow_add,Nat.mul_comm,←Nat.div_div_eq_div_mul]
    exact Nat.div_le_self ..
   ·have:b / 32 ^ 13<1:=Nat.div_lt_of_lt_mul (by omega)
    omega
  show ((iK m b (k+13)).1*5+1+(iK m b (k+13)).2 / 32) % (m+1)=IS m _
  rw[hq,yE hb k]
  rfl
def La(m:Nat):Prop:=m=7∨m=31∨m=127
def Nb(m:Nat):Nat→Nat→List Nat
 |0,_=>[]
 |n+1,x=>x::Nb m n (IS m x)
theorem xD(m:Nat):∀(n x j:Nat),j∈Nb m n x→∃a,a<n∧it m a x=j
 |0,x,j,h=>by cases h
 |n+1,x,j,h=>by
  rcases List.mem_cons.mp h with rfl | h
  ·exact⟨0,by omega,rfl⟩
  ·obtain⟨a,ha,e⟩:=xD m n (IS m x) j h
   exact⟨a+1,by omega,by rw[n9 m a 1 x];exact e⟩
theorem EN{m:Nat}(hm:La m):(∀j,j<m+1→j∈Nb m (m+1) 0)∧it m (m+1) 0=0:=by
 rcases hm with rfl | rfl | rfl
 ·exact⟨by decide+kernel,by decide+kernel⟩
 ·exact⟨by decide+kernel,by decide+kernel⟩
 ·exact⟨by decide+kernel,by decide+kernel⟩
theorem OV{m:Nat}(hm:La m){i j:Nat}(hi:i<m+1)(hj:j<m+1):∃n,n≤m∧it m n i=j:=by
 obtain⟨h1,h2⟩:=EN hm
 obtain⟨a,ha,rfl⟩:=xD m _ 0 i (h1 i hi)
 obtain⟨b,hb,rfl⟩:=xD m _ 0 j (h1 j hj)
 by_cases h:a≤b
 ·exact⟨b - a,by omega,by rw[←n9,Nat.sub_add_cancel h]⟩
 ·refine⟨m+1 - a+b,by omega,?_⟩
  rw[←n9,show m+1 - a+b+a=b+(m+1) by omega,n9,h2]
theorem J3(m b k:Nat):(iK m b k).1<m+1:=by
 cases k with
 |zero=>exact Nat.mod_lt _ (by omega)
 |succ k=>exact Nat.mod_lt _ (by omega)
theorem reach{m b:Nat}(hm:La m)(hb:b<2 ^ 64){j:Nat}(hj:j<m+1):∃k,k≤m+13∧(iK m b k).1=j:=by
 obtain⟨n,hn,e⟩:=OV hm (J3 m b 13) hj
 exact⟨n+13,by omega,by rw[yE hb,e]⟩
def vals(o:Array (Option Nat))(n:Nat):List Nat:=(List.range n).filterMap fun j=>o.getD j none
structure TabOk (t:SetTable) (n:Nat) (ld:Bool):Prop where
 Rk:La t.mask
 size:t.place.size=n
 Q2:t.dummies= #[]
 room:5*n<3*t.mask
 plain:t.plain=true
 led:t.led=ld
 rise:t.place.toList.Pairwise (· < ·)
section
variable{prog:Program}{w:World}{A:Around}{E:Value→Shared→Prop}{s:Shared}
end
section
variable{prog:Program}{w:World}{A:Around}{R:Result→Shared→Prop}{I:Addr}{fp wr:List Addr}{G:Array GenState→Array GenState→Prop}{n:Nat}{P:Nat→Value→Prop}{St:Nat→Shared→Prop}{ld:Bool}
end
def Kb(w:World):Bool:=!w.params.followText "set-order"
section
variable{prog:Program}{w:World}{A:Around}{E:Value→Shared→Prop}{s:Shared}
theorem v5(a:Value){Q₁:Value→Shared→Prop}(h:Q₁ (.ref s.heap.objs.size) {s with heap:=s.heap.push {cls:= .type "set",dict:=none,data:= .set #[] 0 (.fresh 0 0 (Kb w))} }):
 codeAny (model prog w) A (.call (.builtin "set.__new__") ⟨[.type "set",a],[]⟩) (wants Q₁ E) s:=by
 refine codeAny_of_tree (show wpAny _ A.in1 (do checkBuiltinCall "set.__new__" ⟨[.type "set",a],[]⟩;again (.builtin "set.__new__" ⟨[.type "set",a],[]⟩)) _ _ s from ?_)
 refine wpAny_bind (wpAny_of_eq (F.newCall_set_1 a) (wpAny_pure ⟨plainId_quiet F.plain_set_new _,codeAny_builtin F.entry_set_new ?_⟩))
 rw[Around.under_plainId F.plain_set_new _]
 unfold Builtin.«set.__new__» Builtin.Frozenset.newClass
 have zN:=sub_set_self
 obtain⟨hp,g,d,tk,os⟩:=s
 dsimp only
 wp_walk
 refine wpAny_askSetting (wpAny_pure ?_)
 simp only[newObj]
 exact wpAny_bind (wpAny_alloc (wpAny_pure (wpAny_pure h)))
end
section
variable{prog:Program}{w:World}{A:Around}{E:Value→Shared→Prop}{s:Shared}
end
end L3
namespace L3
open PySem PySem.Spec L2 HT
open PyProof.Rows hiding St
theorem items_int{P:Program}{w:World}:∀{us:List Value}{ns:List Int},IntsAre us ns→ItemsAre (intKind P w) ns us
 |_,_, .nil=> .nil
 |_,_, .cons n t h=> .cons (intKind_is _ _ _ _) (items_int h)
section
variable{X:Cx}{Xw:Nat→Hp→Prop}{e:Expr}{δ:DE}{pos o_ p p2:Pos}
end
end L3
namespace L3
open PySem PySem.SetTable PySem.W PyProof.Rows
def IsSI(h:Heap)(it a:Addr)(sl k n ep:Nat):Prop:=∃o,h.get? it=some o∧o.cls= .type "set_iterator"∧o.data= .fields #[rawInt sl,rawInt k, .ref a,rawInt n,rawInt ep]
theorem IsSI.typeIs{s:Shared}{it a:Addr}{sl k n ep:Nat}(x:IsSI s.heap it a sl k n ep):s.TypeIs (.ref it) "set_iterator":=let ⟨o,ho,hc,_⟩:=x;⟨o,ho,hc⟩
section
variable{prog:Program}{w:World}{A:Around}{E:Value→Shared→Prop}{s:Shared}{a:Addr}{o:Obj}{es:Array (Int×Value)}{ep:Nat}{t:SetTable}
end
end L3
namespace L3
open PySem PySem.Spec L2 SeqAt HT
open PyProof.Rows hiding St
section
variable{X:Cx}{Xw:Nat→Hp→Prop}{e:Expr}{δ:DE}{pos o_ p p2:Pos}
end
end L3
namespace L3
open PySem PySem.Spec L2 HT
open PyProof.Rows hiding St
section
variable{X:Cx}{Xw:Nat→Hp→Prop}{e:Expr}{δs:DA}{pos p:Pos}
end
section
variable{X:Cx}{Xw:Nat→Hp→Prop}{e:Expr}{δ:DE}{pos o_ p p2:Pos}
end
def oF(a:List Str)(x:Str):List Str:=if x∈a then a else a++[x]
def eR(val:Nat→Str):Nat→List Str
 |0=>[]
 |i+1=>oF (eR val i) (val i)
theorem oG(val:Nat→Str):∀i,(eR val i).length≤i
 |0=>Nat.le_refl _
 |i+1=>by
  have ih:=oG val i
  show (oF _ _).length≤_
  unfold oF
  split
  ·omega
  ·rw[List.length_append,List.length_singleton];omega
theorem BY{a:List Str}{x k:Str}:k∈oF a x↔(k∈a∨k=x):=by
 unfold oF
 split
 ·rename_i h
  exact⟨.inl,fun q=>q.elim id fun e=>e▸h⟩
 ·rw[List.mem_append,List.mem_singleton]
section
variable{prog:Program}{w:World}{A:Around}{R:Result→Shared→Prop}{I:Addr}{fp wr:List Addr}{G:Array GenState→Array GenState→Prop}{n:Nat}{P:Nat→Value→Prop}{St:Nat→Shared→Prop}
def SetS(prog:Program)(w:World)(h:Heap)(a:Addr)(xs:List Str):Prop:=h.SetOf (strKind prog w) a (fun k=>decide (k∈xs)) xs.length
theorem SetS.at{h h':Heap}{a:Addr}{xs:List Str}(x:SetS prog w h a xs)(e:∀o,h.get? a=some o→h'.get? a=some o):SetS prog w h' a xs:=
 let ⟨o,es,ep,t,ho,r⟩:=x
 ⟨o,es,ep,t,e o ho,r⟩
theorem Ax(W:WalksS prog w A.in1 I fp wr G n P St)(S:Addr)(Lm:S∉fp)(val:Nat→Str)(MO:∀i v,P i v→∃t,v= .str (val i) t)(hn:n+1<scanBound):∀(k i:Nat) (s:Shared),n - i=k→i≤n→St i s→SetS prog w s.heap S (eR val i)→
 (∀s',Moved (S::wr) G s s'→SetS prog w s'.heap S (eR val n)→R (.ok (.ret .none)) s')→codeAny (model prog w) A (.builtin "set.update.loop" ⟨[.ref S, .ref I],[]⟩) R s:=by
 have N5:S∉wr:=fun h=>Lm (W.sub _ h)
 have zN:∀b∈wr,b∈S::wr:=fun b hb=>List.mem_cons_of_mem _ hb
 intro k
 induction k with
 |zero=>
  intro i s hk hi pT hS hR
  obtain rfl:i=n:=by omega
  refine codeAny_builtin PyProof.Rows.F.entry_set_update_loop ?_
  rw[Around.under_plainId PyProof.Rows.F.plain_set_update_loop _]
  show wpAny _ A.in1 (pyNext (.ref I)>>=_) _ _ s
  refine wpAny_bind (W.done s _ _ pT fun s' hm=>?_)
  show wpAny _ A.in1 (ret Value.none) _ _ s'
  exact wpAny_pure (hR s' (hm.mono zN) (hS.at fun o e=>hm.heap S o N5 e))
 |succ k ih=>
  intro i s hk hi pT hS hR
  have eO:i<n:=by omega
  refine codeAny_builtin PyProof.Rows.F.entry_set_update_loop ?_
  rw[Around.under_plainId PyProof.Rows.F.plain_set_update_loop _]
  show wpAny _ A.in1 (pyNext (.ref I)>>=_) _ _ s
  refine wpAny_bind (W.item i s _ _ eO pT fun v s' hP MM hm=>?_)
  obtain⟨t,rfl⟩:=MO i v hP
  have Jv:SetS prog w s'.heap S (eR val i):=hS.at fun o e=>hm.heap S o N5 e
  show wpAny _ A.in1 (holding [Value.str (val i) t] (setAdd S (.str (val i) t))>>=_) _ _ s'
  refine wpAny_bind (wpAny_holding ?_)
  unfold setAdd
  refine wpAny_holding (wpAny_bind ((strKind prog w).pyHash (k:=val i) (strKind_is _ _ _ _) ?_))
  have JU:(eR val i).length+1<scanBound:=by have:=oG val i;omega
  refine wpAny_setAddHashed_of (knd:=strKind prog w) (s:={s' with toks:=s'.toks+1}) (strKind_is _ _ _ _) rfl Jv JU fun h' Hb Ph=>?_
  have Pj:SetS prog w h' S (eR val (i+1)):=by
   refine PyProof.Rows.SetOf_congr Ph (fun k'=>?_) ?_
   ·show _=decide (k'∈oF (eR val i) (val i))
    rw[Bool.eq_iff_iff]
    simp[BY]
   ·show _=(oF (eR val i) (val i)).length
    unfold oF
    by_cases hx:val i∈eR val i
    ·simp[hx]
    ·simp[hx]
  have OL:∀b o,b≠S→s'.heap.get? b=some o→h'.get? b=some o:=fun b o hb e=>(Hb.2 b hb).trans e
  refine wpAny_pure ⟨plainId_quiet PyProof.Rows.F.plain_set_update_loop _,ih (i+1) _ (by omega) eO (W.frame _ s' _ _ MM (Nat.le_add_right ..) fun b hb o e=>OL b o (fun z=>Lm (z▸hb)) e) Pj fun KS My Ma=>?_⟩
  exact hR KS (Moved.trans W.gtrans ((hm.mono zN).then_heap (Nat.le_add_right ..) fun b o hb e=>OL b o (fun z=>hb (z▸List.mem_cons_self ..)) e) My) Ma
end
section
variable{prog:Program}{w:World}{A:Around}{E:Value→Shared→Prop}{s:Shared}
set_option maxHeartbeats 3200000 in
theorem pW{l:Addr}{items:Array Value}{val:Nat→Str}{Q:Value→Shared→Prop}(hh:A.handled=none)(hl:s.heap.IsList l items)(hi:∀(i:Nat) (v:Value),items[i]? =some v→∃t,v= .str (val i) t)(hb:items.size+1<scanBound)
 (h:∀(h':Heap) (tk:Nat),SetS prog w h' s.heap.objs.size (eR val items.size)→(∀b o,b<s.heap.objs.size→s.heap.get? b=some o→h'.get? b=some o)→Q (.ref s.heap.objs.size) {s with heap:=h',toks:=tk}):
 wpAny (model prog w) A (call (.type "set") [.ref l]) Q E s:=by
 obtain⟨c,tl,P8⟩:=F.called_set.mro
 have Oi:=F.called_set.made
 have zN:=F.called_set.sub
 refine wpAny_call (codeAny_of_tree ?_)
 show wpAny _ _ (callAny (.type "set") _) _ _ _
 refine wpAny_pure ⟨Code.quiet_builtin _ (by decide+kernel),codeAny_builtin F.entry_type_call ?_⟩
 rw[Around.under_plain (weight_type_call_type "set" [.ref l] []) rfl]
 have h1:=F.called_set.notType
 have h2:=F.called_set.canCreate
 have Q5:=F.typeCall_set_1 (.ref l)
 repeat (any_goals (first | assumption | wp_step))
 refine codeAny_mono (v5 (.ref l) (E:=E) (Q₁:=fun obj s₁=>∃led:Bool,led=Kb w∧obj= .ref s.heap.objs.size∧s₁={s with heap:=s.heap.push {cls:= .type "set",dict:=none,data:= .set #[] 0 (.fresh 0 0 led)} }) ⟨_,rfl,rfl,rfl⟩) fun r s₁ hr=>?_
 cases r with
 |error e=>exact hr
 |ok fl=>
  cases fl with
  |ret obj=>
   obtain⟨led,PZ,rfl,rfl⟩:=hr
   have hS:(s.heap.push {cls:= .type "set",dict:=none,data:= .set #[] 0 (.fresh 0 0 led)}).get? s.heap.objs.size=some {cls:= .type "set",dict:=none,data:= .set #[] 0 (.fresh 0 0 led)}:=Heap.get?_push_size _ rfl
   have Pk:Shared.TypeIs {s with heap:=s.heap.push {cls:= .type "set",dict:=none,data:= .set #[] 0 (.fresh 0 0 led)} } (.ref s.heap.objs.size) "set":=⟨_,hS,rfl⟩
   have Q9:=F.called_set.init.lookup
   have N6:=F.called_set.init.bind (.ref s.heap.objs.size)
   repeat (any_goals (first | assumption | wp_step))
   refine codeAny_mono (codeAny_call_builtin (R:=wants (fun r s₂=>r= .none∧∃h' tk,s₂={s with heap:=h',toks:=tk}∧SetS prog w h' s.heap.objs.size (eR val items.size)∧(∀b o,b<s.heap.objs.size→s.heap.get? b=some o→h'.get? b=some o)) E) F.called_set.init.plain F.entry_set_init (check_set_init_1 Pk ?_)) fun r₂ s₂ ML=>?_
   ·obtain⟨ol,Ol,JA,nl,N9⟩:=hl
    obtain⟨QM,Kj,OI,HG⟩:=ol
    simp only at JA N9
    subst JA;subst N9
    have MF:(s.heap.push {cls:= .type "set",dict:=none,data:= .set #[] 0 (.fresh 0 0 led)}).get? l=some {cls:= .type "list",dict:=Kj,data:= .seq items nl,slots:=HG}:=Heap.get?_push_of_some _ Ol
    have Ql:=F.sub_list_set
    have Qk:=F.sub_list_frozenset
    have il:(Value.type "list"==Value.type "dict")=false:=by decide
    have Gf:(s.heap.push {cls:= .type "set",dict:=none,data:= .set #[] 0 (.fresh 0 0 led)}).IsList l items:=⟨_,MF,rfl,nl,rfl⟩
    unfold Builtin.«set.__init__» noKeywords Builtin.Frozenset.updateFrom
    generalize Pd:pyIter=PI
    wp_walk
    subst Pd
    refine wpAny_pyIter_list Gf (wpAny_bind (wpAny_runValue ?_))
    have Oe:l<s.heap.objs.size:=Heap.lt_size Ol
    have PH:A.in1.in1.in1.handled=none:=by simp[hh]
    have Mz:l≠(s.heap.push {cls:= .type "set",dict:=none,data:= .set #[] 0 (.fresh 0 0 led)}).objs.size:=by
     rw[Heap.size_push];exact Nat.ne_of_lt (Nat.lt_succ_of_lt Oe)
    have Lm:s.heap.objs.size∉[(s.heap.push {cls:= .type "set",dict:=none,data:= .set #[] 0 (.fresh 0 0 led)}).objs.size,l]:=by
     rw[Heap.size_push];simp only[List.mem_cons,List.mem_singleton,List.not_mem_nil,or_false,not_or]
     exact⟨Nat.ne_of_lt (Nat.lt_succ_self _),Nat.ne_of_gt Oe⟩
    refine Ax ((Walks.list PH _ l Mz items).toS) s.heap.objs.size Lm val hi hb (items.size - 0) 0 _ (by omega) (Nat.zero_le _) ⟨⟨_,Heap.get?_push_size _ rfl,rfl,rfl⟩,(Gf.push _)⟩ ?hS0 ?hR
    case hS0=>
     refine PyProof.Rows.SetOf_congr ((PyProof.Rows.setObjOf_fresh (knd:=strKind prog w) led).setOf (Heap.get?_push_of_some _ hS) (by unfold scanBound;omega)) (fun _=>?_) rfl
     rw[eq_comm,decide_eq_false_iff_not]
     exact List.not_mem_nil
    case hR=>
     intro s' hm Jv
     obtain⟨h',g',d',IT,Nc⟩:=s'
     obtain rfl:g'=s.gens:=hm.gens
     obtain rfl:d'=s.drawn:=hm.drawn
     obtain rfl:Nc=s.os:=hm.os
     show wpAny _ _ _ _ _ _
     refine wpAny_pure ?_
     show wpAny _ _ (ret Value.none) _ _ _
     refine wpAny_pure ⟨rfl,h',IT,rfl,Jv,fun b o hb e=>?_⟩
     have GZ:b≠s.heap.objs.size:=Nat.ne_of_lt hb
     have G0:b≠(s.heap.push {cls:= .type "set",dict:=none,data:= .set #[] 0 (.fresh 0 0 led)}).objs.size:=by
      rw[Heap.size_push];exact Nat.ne_of_lt (Nat.lt_succ_of_lt hb)
     exact hm.heap b o (by simp only[List.mem_cons,List.mem_singleton,List.not_mem_nil,or_false,not_or];exact⟨GZ,G0⟩) (Heap.get?_push_of_some _ (Heap.get?_push_of_some _ e))
   ·cases r₂ with
    |error e=>exact ML
    |ok O5=>
     cases O5 with
     |ret r=>
      obtain⟨rfl,h',tk,rfl,Jv,Gb⟩:=ML
      repeat (any_goals (first | assumption | wp_step))
      exact h _ _ Jv Gb
     |_=>exact ML.elim
  |_=>exact hr.elim
end
section
variable{X:Cx}{Xw:Nat→Hp→Prop}{e:Expr}{δ:DE}{pos o_ p p2:Pos}
def fI:D→M D
 | .lst ds=>match h9 ds with
   |some xs=>if xs.length≤64 then M.ret (.int (eR (fun i=>xs.getD i ⟨#[]⟩) xs.length).length) else M.stuck
   |none=>M.stuck
 |_=>M.stuck
theorem xH(hc:X.calm=true)(hg:Gl X "len")(hm:X.mg "len"=none)(Px:Gl X "set")(G6:X.mg "set"=none)(hb:bootBuiltins "len"=some (.builtin "len"))(G0:bootBuiltins "set"=some (.type "set"))(ha:PD X Xw e δ)
 (Oa:starEach [e] X.env=[(false,eval e X.env)]:=by rfl)(he:starEach [.Call (.Name "set" p2) [e] [] o_] X.env=[(false,eval (.Call (.Name "set" p2) [e] [] o_) X.env)]:=by rfl):
 PD X Xw (.Call (.Name "len" p) [.Call (.Name "set" p2) [e] [] o_] [] pos) (d1 fI δ):=fun pins s σ H Q I ⟨F,ρ,S,w⟩=>by
 have w:WP X.K Xw F H (δ ρ>>=fI) Q:=w
 refine wpAny_Call_Name_kw (gQ I hg hm hb ?_ (by decide) (by decide))
 refine PyProof.Rows.callWith_builtin1 ?_ he rfl
 rw[he]
 refine Calls.spliced_cons (wpAny_Call_Name_kw (gQ I Px G6 G0 ?_ (by decide) (by decide)))
 refine PyProof.Rows.callWith_type1 ?_ Oa rfl
 rw[Oa]
 refine Calls.spliced_cons (bN (ha pins s σ H _ I ⟨F,ρ,S,WP.bind w⟩) fun u s1 ⟨v,H1,I1,r,F1,d,e1,q1,w1⟩=>Calls.spliced_nil ?_)
 unfold fI at w1
 split at w1
 ·rename_i ds
  split at w1
  ·rename_i xs Hd
   split at w1
   ·rename_i PQ
    obtain⟨a,ws,rfl,h2,h3,h4⟩:=q1
    cases (show u=_ from r)
    obtain rfl:=kN Hd h3
    obtain⟨aB,rv,pl,hz⟩:=I1.list (SqL.of (e1.fh _ _ h2))
    have hl:=rv.length
    rw[List.length_map] at hl
    refine pW (val:=fun i=>xs.getD i ⟨#[]⟩) (I1.ok.hd hc) pl.isList (fun i v hv=>?_) (by rw[List.size_toArray];unfold scanBound;omega) fun h' tk hS hk=>Calls.spliced_nil ?_
    ·have hi:i<aB.length:=by simpa using (Array.getElem?_eq_some_iff.mp hv).1
     have r:=gK i rv (by rw[List.length_map];omega)
     rw[List.getD_eq_getElem?_getD,List.getElem?_map,List.getElem?_eq_getElem (by omega:i<xs.length),List.getD_eq_getElem?_getD,List.getElem?_eq_getElem hi] at r
     obtain⟨t,q⟩:=(show RelV (.str xs[i]) aB[i] from r)
     rw[List.getElem?_toArray,List.getElem?_eq_getElem hi] at hv
     cases hv
     exact⟨t,by rw[q,List.getD_eq_getElem?_getD,List.getElem?_eq_getElem (by omega:i<xs.length)];rfl⟩
    ·have hn:=oG (fun i=>xs.getD i ⟨#[]⟩) aB.toArray.size
     obtain⟨o,es,ep,t,ho,hex,hd,Q7,P6,hb,hf,hn⟩:=hS
     refine call_len_set ho hex hd hf (by unfold scanBound at hb;omega) ⟨.int es.size,H1,I1.kept fun b o q=>hk b o (Heap.lt_size q) q,⟨_,rfl⟩,?_⟩
     rw[hn,List.size_toArray,←hl]
     exact WP.now w1 e1.fh rfl
   ·exact w1.elim
  ·exact w1.elim
 ·exact w1.elim
end
section
variable{X:Cx}{Xw:Nat→Hp→Prop}{a b:Expr}{δa δb:DE}{pos:Pos}
end
section
variable{prog:Program}{w:World}{A:Around}{E:Value→Shared→Prop}{s:Shared}
end
section
variable{X:Cx}{Xw:Nat→Hp→Prop}{a b:Expr}{δa δb:DE}{pos:Pos}
end
end L3
namespace L3
open PySem PySem.Spec L2 SeqAt HT
open PyProof.Rows hiding St
section
variable{X:Cx}{Xw:Nat→Hp→Prop}{e:Expr}{δs:DA}{pos p:Pos}
end
end L3
namespace L3
open PySem PySem.Spec L2 HT
open PyProof.Rows hiding St
def ot:List Int→Int
 |[]=>0
 |[x]=>x
 |x::r=>max x (ot r)
def cN:List Int→Int
 |[]=>0
 |[x]=>x
 |x::r=>min x (cN r)
theorem qZ:∀{l:List Int},0<l.length→ot l∈l∧∀a∈l,a≤ot l
 |[x],_=>⟨by simp[ot],fun a h=>by rw[List.mem_singleton.mp h];exact Int.le_refl _⟩
 |x::y::r,_=>by
  obtain⟨h1,h2⟩:=qZ (l:=y::r) (Nat.succ_pos _)
  have e:ot (x::y::r)=max x (ot (y::r)):=rfl
  rw[e]
  refine⟨?_,fun a ha=>?_⟩
  ·rcases Int.le_total x (ot (y::r)) with q | q
   ·rw[Int.max_eq_right q];exact List.mem_cons_of_mem _ h1
   ·rw[Int.max_eq_left q];exact List.mem_cons_self ..
  ·rcases List.mem_cons.mp ha with q | q
   ·rw[q];exact Int.le_max_left ..
   ·exact Int.le_trans (h2 a q) (Int.le_max_right ..)
theorem jo:∀{l:List Int},0<l.length→cN l∈l∧∀a∈l,cN l≤a
 |[x],_=>⟨by simp[cN],fun a h=>by rw[List.mem_singleton.mp h];exact Int.le_refl _⟩
 |x::y::r,_=>by
  obtain⟨h1,h2⟩:=jo (l:=y::r) (Nat.succ_pos _)
  have e:cN (x::y::r)=min x (cN (y::r)):=rfl
  rw[e]
  refine⟨?_,fun a ha=>?_⟩
  ·rcases Int.le_total x (cN (y::r)) with q | q
   ·rw[Int.min_eq_left q];exact List.mem_cons_self ..
   ·rw[Int.min_eq_right q];exact List.mem_cons_of_mem _ h1
  ·rcases List.mem_cons.mp ha with q | q
   ·rw[q];exact Int.min_le_left ..
   ·exact Int.le_trans (Int.min_le_right ..) (h2 a q)
section
variable{X:Cx}{Xw:Nat→Hp→Prop}{e:Expr}{δs:DA}{pos p:Pos}
def OD:List D→M D
 |[.lst ds]=>match nums ds with
  |some ns=>if 0<ns.length then M.ret (.int (ot ns)) else M.stuck
  |none=>M.stuck
 |_=>M.stuck
def iG:List D→M D
 |[.lst ds]=>match nums ds with
  |some ns=>if 0<ns.length then M.ret (.int (cN ns)) else M.stuck
  |none=>M.stuck
 |_=>M.stuck
theorem n_{aB:List Value}{ns:List Int}(hi:IntsAre aB ns):∃xs:Array (Int×Tok),aB.toArray=intItems xs∧xs.size=ns.length∧∀i,i<xs.size→numAt xs i∈ns∧ns[i]? =some (numAt xs i):=by
 obtain⟨xs,hx⟩:=hi.allInts.items
 have e1:ns=xs.toList.map (·.1):=by
  rw[←nums_intItems,←hx]
  exact(show numsOf aB.toArray.toList=ns from hi.numsOf).symm
 refine⟨xs,hx,by rw[e1];simp,fun i h=>?_⟩
 have:ns[i]? =some (numAt xs i):=by
  rw[e1,List.getElem?_map,Array.getElem?_toList]
  unfold numAt
  rw[Array.getElem?_eq_getElem h]
  rfl
 exact⟨List.mem_of_getElem? this,this⟩
theorem IF(hc:X.calm=true):CallR X (.builtin "max") (fun xs H Q=>∃(p:Addr) (ns:List Int),xs=[.ref p]∧SqL X.K H p (ns.map V.int)∧0<ns.length∧Q (.int (ot ns)) H):=by
 intro pins s σ H xs us Q I r h
 obtain⟨a,ns,rfl,hq,h0,q⟩:=h
 obtain⟨u,rfl,r1⟩:=r.one
 cases (show u=_ from r1)
 obtain⟨aB,rv,pl,hz⟩:=I.list hq
 have hi:IntsAre aB ns:=by simpa using intsAre_of rv
 obtain⟨xs,hx,hsz,wB⟩:=n_ hi
 obtain⟨g1,g2⟩:=argBest_gt (numAt xs) (xs.size - 1)
 refine max_intList (I.ok.hd hc) (show s.heap.IsList a (intItems xs) from hx▸pl.isList) (by omega) fun v h' tk hv hk=>?_
 obtain⟨t,rfl⟩:=intItems_at hv
 have hM:=wB (argBest (fun i j=>decide (numAt xs i>numAt xs j)) (xs.size - 1)) (by omega)
 obtain⟨m1,m2⟩:=qZ h0
 have e:numAt xs (argBest (fun i j=>decide (numAt xs i>numAt xs j)) (xs.size - 1))=ot ns:=by
  refine Int.le_antisymm (m2 _ hM.1) ?_
  obtain⟨j,hj,e⟩:=List.getElem_of_mem m1
  have h2:=(wB j (by omega)).2
  rw[List.getElem?_eq_getElem hj,e] at h2
  rw[Option.some.inj h2]
  exact g2 j (by omega)
 rw[e]
 exact⟨.int (ot ns),H,I.kept hk,⟨_,rfl⟩,q⟩
theorem zw(hc:X.calm=true):CallR X (.builtin "min") (fun xs H Q=>∃(p:Addr) (ns:List Int),xs=[.ref p]∧SqL X.K H p (ns.map V.int)∧0<ns.length∧Q (.int (cN ns)) H):=by
 intro pins s σ H xs us Q I r h
 obtain⟨a,ns,rfl,hq,h0,q⟩:=h
 obtain⟨u,rfl,r1⟩:=r.one
 cases (show u=_ from r1)
 obtain⟨aB,rv,pl,hz⟩:=I.list hq
 have hi:IntsAre aB ns:=by simpa using intsAre_of rv
 obtain⟨xs,hx,hsz,wB⟩:=n_ hi
 obtain⟨g1,g2⟩:=argBest_lt (numAt xs) (xs.size - 1)
 refine min_intList (I.ok.hd hc) (show s.heap.IsList a (intItems xs) from hx▸pl.isList) (by omega) fun v h' tk hv hk=>?_
 obtain⟨t,rfl⟩:=intItems_at hv
 have hM:=wB (argBest (fun i j=>decide (numAt xs i<numAt xs j)) (xs.size - 1)) (by omega)
 obtain⟨m1,m2⟩:=jo h0
 have e:numAt xs (argBest (fun i j=>decide (numAt xs i<numAt xs j)) (xs.size - 1))=cN ns:=by
  refine Int.le_antisymm ?_ (m2 _ hM.1)
  obtain⟨j,hj,e⟩:=List.getElem_of_mem m1
  have h2:=(wB j (by omega)).2
  rw[List.getElem?_eq_getElem hj,e] at h2
  rw[Option.some.inj h2]
  exact g2 j (by omega)
 rw[e]
 exact⟨.int (cN ns),H,I.kept hk,⟨_,rfl⟩,q⟩
theorem tG(hc:X.calm=true)(hg:Gl X "min")(hm:X.mg "min"=none)(hb:bootBuiltins "min"=some (.builtin "min"))(ha:lg X Xw [e] δs)(he:starEach [e] X.env=[(false,eval e X.env)]:=by rfl):PD X Xw (.Call (.Name "min" p) [e] [] pos) (dA iG δs):=
 d5 (zw hc) (fun Xw F H vs ds Q s h w=>by
  unfold iG at w
  split at w
  ·rename_i ds
   obtain⟨v,rfl,h1⟩:=h.one
   obtain⟨a,ws,rfl,h2,h3,h4⟩:=h1
   split at w
   ·rename_i ns Lv
    split at w
    ·rename_i h0
     have e:=iB Lv h3
     subst e
     exact⟨a,ns,rfl,SqL.of (s _ _ h2),h0,WP.now w s rfl⟩
    ·exact w.elim
   ·exact w.elim
  ·exact w.elim) hg hm hb ha (by decide) (by decide) he rfl
end
end L3
namespace L3
open PySem PySem.Spec L2
open PyProof.Rows hiding St
section
variable{X:Cx}{Xw:Nat→Hp→Prop}{a b:Expr}{δa δb:DE}{pos:Pos}
theorem y7(ha:PD X Xw a δa)(hb:PD X Xw b δb):k9 X Xw (.Compare a [.GtE] [b] pos) (bS (d2 AN δa δb)):=dH Km (rj fun _ _ _=>rfl) ha hb
end
section
variable{prog:Program}{w:World}{A:Around}{E:Value→Shared→Prop}{s:Shared}
structure ZipS (h:Heap) (z TI TO i1 i2:Addr):Prop where
 z:∃f0 f1,h.get? z=some {cls:= .type "zip",dict:=none,data:= .fields #[f0,f1, .bool false, .ref TI, .ref TO],slots:= #[]}∧(f1= .bool false∨f1= .bool true)∧(f0= .none∨∃(T:Addr) (o:Obj),f0=rawInt (T:Nat)∧T≠z∧T≠TO∧T≠i1∧T≠i2∧h.get? T=some o)
 ti:IsPair h TI (.ref i1) (.ref i2)
 to:∃a b,IsPair h TO a b
structure ZAp (z TI TO i1 i2:Addr) (f1 f2:List Addr):Prop where
 TIz:TI≠z
 TITO:TI≠TO
 TIi1:TI≠i1
 TIi2:TI≠i2
 TOz:TO≠z
 TOi1:TO≠i1
 TOi2:TO≠i2
 i1z:i1≠z
 i2z:i2≠z
 i12:i1≠i2
 z1:z∉f1
 z2:z∉f2
 t1:TO∉f1
 t2:TO∉f2
 a2:i1∉f2
 b1:i2∉f1
variable{z TI TO i1 i2:Addr}{p1 p2:List Addr}{n1 n2 k:Nat}{P1 P2:Nat→Value→Prop}{S1 S2:Nat→Heap→Prop}
end
section
variable{prog:Program}{w:World}{A:Around}{E:Value→Shared→Prop}{s:Shared}
variable{z TI TO i1 i2:Addr}{p1 p2:List Addr}{n1 n2 k:Nat}{P1 P2:Nat→Value→Prop}{S1 S2:Nat→Heap→Prop}
end
section
variable{prog:Program}{w:World}{A:Around}{E:Value→Shared→Prop}{s:Shared}
end
section
variable{X:Cx}{Xw:Nat→Hp→Prop}{e e2:Expr}{δs:DA}{pos o_ p p2:Pos}
end
end L3
namespace L3
open PySem PySem.Spec L2 SeqAt HT
open PyProof.Rows hiding St
section
variable{X:Cx}{Xw:Nat→Hp→Prop}{a b e o:Expr}{δ δa δb δo:DE}{δs:DA}{pos p apos aT:Pos}
def MZ(n:Int):Value→Bool
 | .int i _=>i==n
 |_=>false
def u6:D→List D→M D
 | .lst ds,[.int n]=>match nums ds with
   |some ns=>if ns.contains n then M.ret (.int (ns.idxOf n)) else M.stuck
   |none=>M.stuck
 |_,_=>M.stuck
def KH(K:W.Frag):V→List V→Hp→VK→Prop:=fun x vs H Q=>∃(a:Addr) (ns:List Int) (n:Int),x= .ref a∧vs=[.int n]∧H a=some (.lst (ns.map V.int))∧ns.contains n=true∧Q (.int (ns.idxOf n)) H
theorem EB:IZ X "list.index" (KH X.K):=by
 intro pins s σ H x vs v us Q I rx rv h
 obtain⟨a,ns,n,rfl,rfl,hH,hc,q⟩:=h
 cases rx
 obtain⟨u,rfl,r1⟩:=rv.one
 obtain⟨t,rfl⟩:=r1
 obtain⟨z,aB,m,r,hl,e⟩:=I.lstM hH
 have hlen:=r.length
 rw[List.length_map] at hlen
 have at':∀i (h:i<aB.length),∃t,aB[i]= .int (ns[i]'(by omega)) t:=fun i h=>by
  have q:=gK i r (by rw[List.length_map];omega)
  rw[List.getD_eq_getElem?_getD,List.getElem?_map,List.getElem?_eq_getElem (by omega:i<ns.length),List.getD_eq_getElem?_getD,List.getElem?_eq_getElem h] at q
  exact q
 have hm:n∈ns:=by simpa using hc
 have eO:ns.idxOf n<ns.length:=List.idxOf_lt_length_iff.mpr hm
 have hz:ns.length≤sizeLine:=by simpa using z
 have hs:sizeLine=16777216:=sizeLine_eq
 refine call_meets F.slot_list_index ⟨_,e,rfl⟩ F.entry_list_index (F.args_list_index_2 _ _) (list_indexAt a _ m none #[] (.int n t) (MZ n) (ns.idxOf n) (by simp;omega) (by omega) ?_ ?_) ⟨e,fun y hy=>?_,?_⟩
 ·obtain⟨t',e1⟩:=at' (ns.idxOf n) (by omega)
  have:ns[ns.idxOf n]=n:=List.getElem_idxOf eO
  simp[MZ,e1,this]
 ·intro k Gb D_
  have PM:k<aB.length:=by simpa using Gb
  obtain⟨t',e1⟩:=at' k PM
  have:ns[k]'(by omega)≠n:=fun z=>by
   have:=List.not_of_lt_findIdx (p:=(· ==n)) (xs:=ns) (i:=k) D_
   rw[z] at this
   simp at this
  simp[MZ,e1,this]
 ·have hy:y∈aB:=by simpa using hy
  obtain⟨i,hi,rfl⟩:=List.getElem_of_mem hy
  obtain⟨t',e1⟩:=at' i hi
  rw[e1]
  exact EqAt.int_int _ _ _ _
 ·exact⟨.int (ns.idxOf n),H,I.tok _,⟨_,rfl⟩,q⟩
theorem EV(ho:PD X Xw o δo)(ha:lg X Xw [e] δs)(fE:attributeBase o "index" X.env (eval o X.env)=eval o X.env:=by rfl)
 (lB:((backTo aT (starEach [e] X.env)).all (fun x=>!x.1)&&(backToKw aT (keywordEach [] X.env)).all (fun x=>x.1.isSome)&&decide ([e].length+([]:List Keyword).length+(if ([]:List Keyword).isEmpty then 0 else 1)<30))=true:=by rfl)
 (fF:(apos.endLine==aT.line)=true:=by rfl)(pT:starEach [e] X.env=[(false,eval e X.env)]:=by rfl):PD X Xw (.Call (.Attribute o "index" apos) [e] [] aT) (dM qP u6 δo δs):=
 Co PySem.F.plainAttrs_list PySem.F.slot_list_index PySem.F.type_list_index EB BJ (fun Xw F H x vs d ds Q s hx hv w=>by
  unfold u6 at w
  split at w
  ·rename_i ds n
   obtain⟨v,rfl,h1⟩:=hv.one
   cases (show _=_ from h1)
   obtain⟨a,ws,rfl,h2,h3,_⟩:=hx
   split at w
   ·rename_i ns hb
    split at w
    ·rename_i hc
     exact⟨a,ns,n,rfl,rfl,by rw[←iB hb h3];exact s _ _ h2,hc,WP.now w s rfl⟩
    ·exact w.elim
   ·exact w.elim
  ·exact w.elim) ho ha fE lB fF pT rfl
end
section
variable{prog:Program}{w:World}{A:Around}{E:Value→Shared→Prop}{s:Shared}
theorem BZ{items:Array Value}{bt:Nat→Nat→Bool}{I L S:Addr}{good:Heap→Prop}{R:Result→Shared→Prop}(hh:A.handled=none)(il:L≠I)(GW:S≠I)(Ll:S≠L)
 (hg:∀h h',(∀c o,c≠I→c≠S→h.get? c=some o→h'.get? c=some o)→good h→good h')
 (G2:∀(i j:Nat) (x y:Value) (h':Heap) (tk:Nat) (Q':Value→Shared→Prop) (E':Value→Shared→Prop),items[i]? =some x→items[j]? =some y→good h'→(∀IT,Q' (.bool (bt i j)) {s with heap:=h',toks:=IT})→wpAny (model prog w) A.in1 (richCompare .Lt x y) Q' E' {s with heap:=h',toks:=tk})
 (hR:∀v h' tk,items[argBest bt (items.size - 1)]? =some v→good h'→R (.ok (.ret v)) {s with heap:=h',toks:=tk}):
 ∀(k j:Nat) (h:Heap) (tk:Nat) (vb:Value) (c:Nat),items.size - (j+1)=k→j+1≤items.size→good h→(h.IsListIter I L (j+1)∧h.IsList L items)→items[argBest bt j]? =some vb→
  h.get? S=some {cls:= .type "list",dict:=none,data:= .seq #[vb,vb] c,slots:= #[]}→codeAny (model prog w) A (.builtin "min.loop" ⟨[.ref I, .none, .ref S],[]⟩) R {s with heap:=h,toks:=tk}:=by
 have u4:(toString "min"++toString ".loop":String)="min.loop":=by decide
 have W:=Walks.list (prog:=prog) (w:=w) (A:=A.in1) hh I L il items
 have nI:∀{c:Addr},c≠I→c∉[I]:=fun q z=>q (List.mem_singleton.mp z)
 have fr:∀{i:Nat}{h:Heap}{f:Obj→Obj},(h.IsListIter I L i∧h.IsList L items)→((h.update S f).IsListIter I L i∧(h.update S f).IsList L items):=fun {i h f} q=>W.frame _ _ _ q fun c hc o e=>(Heap.get?_update_other _ _ (fun z:S=c=>by
  subst z
  rcases List.mem_cons.mp hc with z | z
  ·exact GW z
  ·exact Ll (List.mem_singleton.mp z))).trans e
 have up:∀{h:Heap}{f:Obj→Obj},good h→good (h.update S f):=fun q=>hg _ _ (fun c o _ hc e=>(Heap.get?_update_other _ _ (Ne.symm hc)).trans e) q
 intro k
 induction k with
 |zero=>
  intro j h tk vb c hk hj g st hb hS
  have zM:j+1=items.size:=by omega
  refine codeAny_builtin F.entry_min_loop ?_
  rw[Around.under_plainId F.plain_min_loop _]
  show wpAny _ A.in1 (seqItems? (.ref S)>>=_) _ _ _
  refine wpAny_bind (wpAny_seqItems hS rfl ?_)
  show wpAny _ A.in1 (tryCatch (pyNext (.ref I)) _>>=_) _ _ _
  refine wpAny_bind (wpAny_tryCatch (W.done _ _ _ (by rw[←zM];exact st) fun h4 t4 k4=>?_))
  have S4:=k4 S _ (nI GW) hS
  show wpAny _ A.in1 (updateSeq S (fun _=> #[])>>=_) _ _ _
  refine wpAny_bind ?_
  refine wpAny_updateSeq S4 rfl (wpAny_bind (wpAny_letGo (wpAny_pure ?_)))
  exact hR vb _ _ (by rw[←zM];exact hb) (up (hg _ _ (fun c o hc _ e=>k4 c o (nI hc) e) g))
 |succ k ih=>
  intro j h tk vb c hk hj g st hb hS
  have eO:j+1<items.size:=by omega
  refine codeAny_builtin F.entry_min_loop ?_
  rw[Around.under_plainId F.plain_min_loop _]
  show wpAny _ A.in1 (seqItems? (.ref S)>>=_) _ _ _
  refine wpAny_bind (wpAny_seqItems hS rfl ?_)
  show wpAny _ A.in1 (tryCatch (pyNext (.ref I)) _>>=_) _ _ _
  refine wpAny_bind (wpAny_tryCatch (W.item (j+1) _ _ _ eO st fun v h1 t1 hP wF k1=>?_))
  have S1:=k1 S _ (nI GW) hS
  have g1:good h1:=hg _ _ (fun c o hc _ e=>k1 c o (nI hc) e) g
  show wpAny _ A.in1 (tryCatch (holding [v,v] (richCompare .Lt v vb>>=_)) _>>=_) _ _ _
  refine wpAny_bind (wpAny_tryCatch (wpAny_holding (wpAny_bind (G2 (j+1) (argBest bt j) v vb _ _ _ _ hP hb g1 fun IT=>?_))))
  refine wpAny_bind (wpAny_holding (wpAny_truthy_bool ?_))
  refine wpAny_bind (wpAny_letGo (wpAny_pure ?_))
  cases N7:bt (j+1) (argBest bt j) with
  |true=>
   simp only[if_true]
   refine wpAny_bind ?_
   refine wpAny_updateSeq S1 rfl (wpAny_bind (wpAny_letGo ?_))
   rw[u4]
   exact wpAny_pure ⟨plainId_quiet F.plain_min_loop _,ih (j+1) _ _ v _ (by omega) eO (up g1) (fr wF) (by simp only[argBest,N7,if_true];exact hP) (Heap.get?_update_self _ S1 rfl)⟩
  |false=>
   simp only[Bool.false_eq_true,if_false]
   refine wpAny_bind (wpAny_letGo ?_)
   rw[u4]
   exact wpAny_pure ⟨plainId_quiet F.plain_min_loop _,ih (j+1) _ _ vb c (by omega) eO g1 wF (by simp only[argBest,N7,Bool.false_eq_true,if_false];exact hb) S1⟩
theorem sO{L:Addr}{items:Array Value}{bt:Nat→Nat→Bool}{Q:Value→Shared→Prop}(hh:A.handled=none)(hL:s.heap.IsList L items)(hn:0<items.size)
 (G2:∀(i j:Nat) (x y:Value) (h':Heap) (tk:Nat) (Q':Value→Shared→Prop) (E':Value→Shared→Prop),items[i]? =some x→items[j]? =some y→(∀c o,s.heap.get? c=some o→h'.get? c=some o)→(∀IT,Q' (.bool (bt i j)) {s with heap:=h',toks:=IT})→wpAny (model prog w) A.in1 (richCompare .Lt x y) Q' E' {s with heap:=h',toks:=tk})
 (h:∀v h' tk,items[argBest bt (items.size - 1)]? =some v→(∀c o,s.heap.get? c=some o→h'.get? c=some o)→Q v {s with heap:=h',toks:=tk}):
 wpAny (model prog w) A (call (.builtin "min") [.ref L]) Q E s:=by
 have u4:(toString "min"++toString ".loop":String)="min.loop":=by decide
 refine call_function_tree F.kind_min F.plain_min F.entry_min (F.args_min1 _) ?_
 show wpAny _ A.in1 (Builtin.Builtins.bindParams "min" ["key","default"] 0 ⟨[],[]⟩>>=_) _ _ s
 refine wpAny_bind (wpAny_of_eq (show Builtin.Builtins.bindParams "min" ["key","default"] 0 ⟨[],[]⟩=pure [none,none] from rfl) ?_)
 refine wpAny_bind (wpAny_pure ?_)
 refine wpAny_bind (wpAny_pyIter_list hL ?_)
 refine wpAny_bind (wpAny_newObj_type ?_)
 rw[u4]
 refine wpAny_pure ⟨plainId_quiet F.plain_min_loop _,?_⟩
 have lL:L<s.heap.objs.size:=by obtain⟨o,e,_⟩:=hL;exact Heap.lt_size e
 have hsz:(s.heap.push {cls:= .type "list_iterator",data:= .fields #[.ref L, .int 0 0]}).objs.size=s.heap.objs.size+1:=Heap.size_push ..
 have N1:L≠s.heap.objs.size:=Nat.ne_of_lt lL
 have GW:(s.heap.push {cls:= .type "list_iterator",data:= .fields #[.ref L, .int 0 0]}).objs.size≠s.heap.objs.size:=by rw[hsz];exact Nat.ne_of_gt (Nat.lt_succ_self _)
 have Ll:(s.heap.push {cls:= .type "list_iterator",data:= .fields #[.ref L, .int 0 0]}).objs.size≠L:=by rw[hsz];exact Nat.ne_of_gt (Nat.lt_succ_of_lt lL)
 have W:=Walks.list (prog:=prog) (w:=w) (A:=A.in1) (by simp[hh]) s.heap.objs.size L N1 items
 have nI:∀{c:Addr},c≠s.heap.objs.size→c∉[s.heap.objs.size]:=fun q z=>q (List.mem_singleton.mp z)
 have gd:∀h h':Heap,(∀c o,c≠s.heap.objs.size→c≠(s.heap.push {cls:= .type "list_iterator",data:= .fields #[.ref L, .int 0 0]}).objs.size→h.get? c=some o→h'.get? c=some o)→(∀c o,s.heap.get? c=some o→h.get? c=some o)→∀c o,s.heap.get? c=some o→h'.get? c=some o:=fun h h' k g c o e=>by
  have:=Heap.lt_size e
  exact k c o (Nat.ne_of_lt this) (by rw[hsz];exact Nat.ne_of_lt (Nat.lt_succ_of_lt this)) (g c o e)
 generalize hS:(s.heap.push {cls:= .type "list_iterator",data:= .fields #[.ref L, .int 0 0]}).objs.size=S at*
 have hS0:((s.heap.push {cls:= .type "list_iterator",data:= .fields #[.ref L, .int 0 0]}).push {cls:= .type "list",data:= .seq #[]}).get? S=some {cls:= .type "list",dict:=none,data:= .seq #[] 0,slots:= #[]}:=by rw[←hS];exact Heap.get?_push_size _ rfl
 have k0:∀c o,s.heap.get? c=some o→((s.heap.push {cls:= .type "list_iterator",data:= .fields #[.ref L, .int 0 0]}).push {cls:= .type "list",data:= .seq #[]}).get? c=some o:=fun c o e=>Heap.get?_push_of_some _ (Heap.get?_push_of_some _ e)
 have QP:((s.heap.push {cls:= .type "list_iterator",data:= .fields #[.ref L, .int 0 0]}).push {cls:= .type "list",data:= .seq #[]}).IsListIter s.heap.objs.size L 0:=⟨_,Heap.get?_push_of_some _ (Heap.get?_push_size _ rfl),rfl,rfl⟩
 have Pb:((s.heap.push {cls:= .type "list_iterator",data:= .fields #[.ref L, .int 0 0]}).push {cls:= .type "list",data:= .seq #[]}).IsList L items:=by
  obtain⟨o,e,q⟩:=hL
  exact⟨o,k0 _ _ e,q⟩
 generalize ((s.heap.push {cls:= .type "list_iterator",data:= .fields #[.ref L, .int 0 0]}).push {cls:= .type "list",data:= .seq #[]})=h0 at*
 refine codeAny_builtin F.entry_min_loop ?_
 rw[Around.under_plainId F.plain_min_loop _]
 show wpAny _ A.in1 (seqItems? (.ref S)>>=_) _ _ _
 refine wpAny_bind (wpAny_seqItems hS0 rfl ?_)
 show wpAny _ A.in1 (tryCatch (pyNext (.ref s.heap.objs.size)) _>>=_) _ _ _
 refine wpAny_bind (wpAny_tryCatch (W.item 0 _ _ _ hn ⟨QP,Pb⟩ fun v h1 t1 hP wF k1=>?_))
 have S1:=k1 S _ (nI GW) hS0
 show wpAny _ A.in1 (updateSeq S (fun _=> #[v,v])>>=_) _ _ _
 refine wpAny_bind ?_
 refine wpAny_updateSeq S1 rfl ?_
 rw[u4]
 refine wpAny_pure ⟨plainId_quiet F.plain_min_loop _,?_⟩
 have g1:∀c o,s.heap.get? c=some o→(h1.update S (·.mapSeq fun _=> #[v,v])).get? c=some o:=fun c o e=>by
  have:=Heap.lt_size e
  have Pn:c≠S:=by rw[←hS,Heap.size_push];exact Nat.ne_of_lt (Nat.lt_succ_of_lt this)
  exact(Heap.get?_update_other _ _ (Ne.symm Pn)).trans (k1 c o (nI (Nat.ne_of_lt this)) (k0 c o e))
 refine BZ (A:=A) (s:=s) (bt:=bt) (I:=s.heap.objs.size) (L:=L) (S:=S) (good:=fun h'=>∀c o,s.heap.get? c=some o→h'.get? c=some o) (by simp[hh]) N1 GW Ll gd (fun i j x y h' tk Q' E' a1 a2 a3 a4=>?_) (fun v h' tk q g=>h v h' tk q g) (items.size - 1) 0 _ _ v _ (by omega) hn g1 ?_ hP (Heap.get?_update_self _ S1 rfl)
 ·exact G2 i j x y h' tk Q' E' a1 a2 a3 a4
 ·exact W.frame _ _ _ wF fun c hc o e=>(Heap.get?_update_other _ _ (fun z:S=c=>by
   subst z
   rcases List.mem_cons.mp hc with z | z
   ·exact GW z
   ·exact Ll (List.mem_singleton.mp z))).trans e
end
section
variable{X:Cx}{Xw:Nat→Hp→Prop}{a b e:Expr}{δa δb:DE}{δs:DA}{pos p:Pos}
def dX(ks:List (List Int)):Nat:=argBest (fun i j=>HT.lexLt (ks.getD i []) (ks.getD j [])) (ks.length - 1)
def sN:List D→M D
 |[.lst ds]=>match jU ds with
  |some ks=>if 0<ks.length∧(ks.getD (dX ks) []).length≤lim then M.ret (tupI (ks.getD (dX ks) [])) else M.stuck
  |none=>M.stuck
 |_=>M.stuck
theorem jL(bt:Nat→Nat→Bool):∀k,argBest bt k≤k
 |0=>Nat.le_refl _
 |k+1=>by
  have:=jL bt k
  simp only[argBest]
  split<;>omega
theorem wO(hc:X.calm=true)(hu:X.A.units+64<cLine):CallR X (.builtin "min") (fun xs H Q=>∃(p:Addr) (ws:List V) (ks:List (List Int)),xs=[.ref p]∧SqL X.K H p ws∧dJ H ws ks∧0<ks.length∧Q (ws.getD (dX ks) .non) H):=by
 intro pins s σ H xs us Q I r h
 obtain⟨a,ws,ks,rfl,hq,hr,h0,q⟩:=h
 obtain⟨u,rfl,r1⟩:=r.one
 cases (show u=_ from r1)
 obtain⟨aB,rv,pl,hz⟩:=I.list hq
 have h1:=kK hr
 have h2:=rv.length
 have hsz:aB.toArray.size=ks.length:=by rw[List.size_toArray];omega
 have at':∀(i:Nat) (x:Value),aB.toArray[i]? =some x→∃ad us,ws.getD i .non= .ref ad∧x= .ref ad∧IntsAre us (ks.getD i [])∧s.heap.IsTuple ad us.toArray:=fun i x hx=>by
  have hi:i<aB.length:=by simpa using (Array.getElem?_eq_some_iff.mp hx).1
  obtain⟨ad,e1,e2⟩:=kJ hr (i:=i) (by omega)
  have r:=gK i rv (by omega)
  rw[e1] at r
  have r:aB.getD i Value.none= .ref ad:=r
  obtain⟨us,ru,pt,_⟩:=I.tuple (SqT.of (K:=X.K) e2)
  refine⟨ad,us,e1,?_,by simpa using intsAre_of ru,pt⟩
  rw[List.getElem?_toArray] at hx
  rw[List.getD_eq_getElem?_getD,hx] at r
  exact r
 refine sO (bt:=fun i j=>HT.lexLt (ks.getD i []) (ks.getD j [])) (I.ok.hd hc) pl.isList (by omega) (fun i j x y h' tk Q' E' hx hy k Ha=>?_) fun v h' tk hv k=>?_
 ·obtain⟨d1,u1,_,rfl,i1,t1⟩:=at' i x hx
  obtain⟨d2,u2,_,rfl,i2,t2⟩:=at' j y hy
  obtain⟨o1,e1,q1⟩:=t1
  obtain⟨o2,e2,q2⟩:=t2
  exact HT.lt_tupInts (s:={s with heap:=h',toks:=tk}) ⟨o1,k _ _ e1,q1⟩ ⟨o2,k _ _ e2,q2⟩ (by simpa using i1) (by simpa using i2) (by show X.A.units+1<cLine;omega) (Ha tk)
 ·rw[hsz] at hv
  obtain⟨ad,us,e1,rfl,_,_⟩:=at' _ v hv
  exact⟨_,H,I.kept k,(by rw[show dX ks=argBest (fun i j=>HT.lexLt (ks.getD i []) (ks.getD j [])) (ks.length - 1) from rfl,e1];rfl),q⟩
theorem Cu(hu:X.A.units+64<cLine)(hc:X.calm=true)(hg:Gl X "min")(hm:X.mg "min"=none)(hb:bootBuiltins "min"=some (.builtin "min"))(ha:lg X Xw [e] δs)(he:starEach [e] X.env=[(false,eval e X.env)]:=by rfl):PD X Xw (.Call (.Name "min" p) [e] [] pos) (dA sN δs):=
 d5 (wO hc hu) (fun Xw F H vs ds Q s h w=>by
  unfold sN at w
  split at w
  ·rename_i ds
   obtain⟨v,rfl,h1⟩:=h.one
   obtain⟨a,ws,rfl,h2,h3,h4⟩:=h1
   split at w
   ·rename_i ks Mv
    split at w
    ·rename_i h0
     obtain⟨r1,r2⟩:=qO s Mv h3
     have eO:dX ks<ks.length:=by
      have:=jL (fun i j=>HT.lexLt (ks.getD i []) (ks.getD j [])) (ks.length - 1)
      have:dX ks≤ks.length - 1:=this
      omega
     obtain⟨ad,e1,e2⟩:=kJ r2 (i:=dX ks) (by rw[kK r2];exact eO)
     refine⟨a,ws,ks,rfl,SqL.of (s _ _ h2),r1,h0.1,WP.now w s ?_⟩
     rw[e1]
     exact⟨ad,_,rfl,e2,qE,by rw[List.length_map];exact h0.2⟩
    ·exact w.elim
   ·exact w.elim
  ·exact w.elim) hg hm hb ha (by decide) (by decide) he rfl
def anyF(x:D):List D→Option Bool
 |[]=>some false
 |y::ys=>match p0 6 y x,anyF x ys with
  |some p,some q=>some (p||q)
  |_,_=>none
def zH(neg:Bool):D→D→M D
 |x, .lst ys=>match anyF x ys with
  |some r=>M.ret (.bl (if neg then !r else r))
  |none=>M.stuck
 |_,_=>M.stuck
theorem yj{pins:List (Addr×Obj)}{σ:St}{F H:Hp}{s:Shared}{A:Around}{x:D}{v:V}{u:Value}(I:Inv X pins σ H s)(hs:Same F H)(hu:A.units+6<cLine)(hx:Den X.K F x v)(rx:RelV v u):
 ∀{ys:List D}{vs:List V}{aB:List Value}{r:Bool},anyF x ys=some r→DenL X.K F ys vs→Vals vs aB→∃f:List Bool,f.length=aB.length∧f.any id=r∧∀i (h:i<aB.length),EqAt A s aB[i] u (f.getD i false)
 |[],_,_,_,e,h,r=>by
  cases e
  cases (show _=_ from h)
  cases r
  exact⟨[],rfl,rfl,fun i h=>absurd h (Nat.not_lt_zero _)⟩
 |y::ys,_,_,_,e,⟨w,ws,h1,h2,h3⟩,r=>by
  subst h1
  unfold anyF at e
  split at e
  ·rename_i p q e1 e2
   cases e
   cases r with
   | @cons _ t _ ts r1 r2=>
     obtain⟨f,l1,l2,l3⟩:=yj I hs hu hx rx e2 h3 r2
     refine⟨p::f,by simp[l1],by simp[←l2],fun i hi=>?_⟩
     cases i with
     |zero=>exact(sr I hs 6 A y x w v t u _ hu h2 hx r1 rx e1).eq
     |succ i=>exact l3 i (by simpa using hi)
  ·cases e
open Classical in
theorem DP{pins:List (Addr×Obj)}{σ:St}{F H:Hp}{s:Shared}{A:Around}{x:D}{v:V}{u:Value}(I:Inv X pins σ H s)(hs:Same F H)(hu:A.units+6<cLine)(hx:Den X.K F x v)(rx:RelV v u){ys:List D}{vs:List V}{aB:List Value}{r:Bool}(e:anyF x ys=some r)(hd:DenL X.K F ys vs)(rv:Vals vs aB):
 ∃g:Value→Bool,aB.toArray.any g=r∧∀t∈aB.toArray,EqAt A s t u (g t):=by
 obtain⟨f,l1,l2,l3⟩:=yj I hs hu hx rx e hd rv
 have key:∀w,decide (∃i,aB[i]? =some w∧f.getD i false=true)=true↔∃i,aB[i]? =some w∧f.getD i false=true:=fun w=>decide_eq_true_iff
 refine⟨fun w=>decide (∃i,aB[i]? =some w∧f.getD i false=true),?_,fun t ht=>?_⟩
 ·rw[←l2,Bool.eq_iff_iff]
  simp only[List.any_toArray,List.any_eq_true,key]
  constructor
  ·rintro⟨w,_,i,e1,e2⟩
   have hi:i<f.length:=by rw[l1];exact(List.getElem?_eq_some_iff.mp e1).1
   rw[List.getD_eq_getElem?_getD,List.getElem?_eq_getElem hi] at e2
   exact⟨_,List.getElem_mem hi,e2⟩
  ·rintro⟨b,hb,e1⟩
   obtain⟨i,hi,rfl⟩:=List.getElem_of_mem hb
   refine⟨aB[i]'(by omega),List.getElem_mem _,i,List.getElem?_eq_getElem _,?_⟩
   rw[List.getD_eq_getElem?_getD,List.getElem?_eq_getElem hi]
   exact e1
 ·have ht:t∈aB:=by simpa using ht
  by_cases h:∃i,aB[i]? =some t∧f.getD i false=true
  ·obtain⟨i,e1,e2⟩:=id h
   obtain⟨hi,e3⟩:=List.getElem?_eq_some_iff.mp e1
   have:=l3 i hi
   rw[e2,e3] at this
   show EqAt A s t u (decide (∃i,aB[i]? =some t∧f.getD i false=true))
   rw[decide_eq_true h]
   exact this
  ·obtain⟨i,hi,rfl⟩:=List.getElem_of_mem ht
   have:=l3 i hi
   have e2:f.getD i false=false:=by
    cases q:f.getD i false with
    |false=>rfl
    |true=>exact absurd ⟨i,List.getElem?_eq_getElem hi,q⟩ h
   rw[e2] at this
   show EqAt A s aB[i] u (decide (∃j,aB[j]? =some aB[i]∧f.getD j false=true))
   rw[decide_eq_false h]
   exact this
def KI(K:W.Frag)(neg:Bool):R2:=fun x y H Q=>∃F dx ys vs p r,Same F H∧Den K F dx x∧anyF dx ys=some r∧DenL K F ys vs∧y= .ref p∧SqL K H p vs∧Q (.bl (if neg then !r else r)) H
theorem Ah(hu:X.A.units+64<cLine):OpR X (compareOp .NotIn) (KI X.K true):=by
 intro pins s σ H x y v u Q I rx ry h
 obtain⟨F,dx,ys,vs,p,r,hs,hx,ex,hd,rfl,hq,q⟩:=h
 cases (show u=_ from ry)
 have Qr:X.A.in1.units+6<cLine:=by show X.A.units+1+6<cLine;omega
 obtain⟨aB,rv,pl,hz⟩:=I.list hq
 obtain⟨g,e1,e2⟩:=DP (A:=X.A.in1) I hs Qr hx rx ex hd rv
 refine SeqAt.notIn_listAt g pl.isList e2 ⟨.bl _,H,I,rfl,?_⟩
 rw[e1]
 exact q
theorem Hg{neg:Bool}{K:W.Frag}:ux K (KI K neg) (zH neg):=fun Xw F H x y dx dy Q s hx hy w=>by
 unfold zH at w
 split at w
 ·rename_i ys
  split at w
  ·rename_i r e1
   obtain⟨p,vs,h1,h2,h3,_⟩:=hy
   exact⟨F,dx,ys,vs,p,r,s,hx,e1,h3,h1,SqL.of (s _ _ h2),WP.now w s rfl⟩
  ·exact w.elim
 ·exact w.elim
theorem Aq(hu:X.A.units+64<cLine)(ha:PD X Xw a δa)(hb:PD X Xw b δb)(hm:behindInMarks .NotIn b=false:=by rfl):k9 X Xw (.Compare a [.NotIn] [b] pos) (bS (d2 (zH true) δa δb)):=dH (Ah hu) Hg ha hb hm
end
end L3
namespace L3
open PySem PySem.Spec L2
open PyProof.Rows hiding St
section
variable{prog:Program}{w:World}{A:Around}{E:Value→Shared→Prop}{s:Shared}
theorem yb{d:Addr}{od:Obj}{es:Array DictEntry}{ep:Nat}{Q:Value→Shared→Prop}(lo:(d==sysModules)=false)(ho:s.heap.get? d=some od)(hx:od.ExactDict)(hd:od.data= .dict es ep)
 (hQ:Q (.ref s.heap.objs.size) {s with heap:=s.heap.push {cls:= .type "dict_items",data:= .fields #[.ref d]} }):wpAny (model prog w) A (call (.builtin "dict.items") [.ref d]) Q E s:=by
 have hT:s.TypeIs (.ref d) "dict":=⟨od,ho,hx.1⟩
 refine wpAny_call_entry F.slot_dict_items hT F.entry_dict_items ?_ (F.args_dict_items_1 _)
 unfold Builtin.«dict.items»
 refine wpAny_bind ?_
 unfold Builtin.Dict.noArgs
 refine wpAny_bind (wpAny_notOrdered_dict hT ?_)
 show wpAny _ _ (pure d) _ _ s
 refine wpAny_pure ?_
 show wpAny _ _ (Builtin.Dict.showsAll d>>=_) _ _ s
 unfold Builtin.Dict.showsAll
 rw[if_neg (by rw[lo];exact Bool.false_ne_true)]
 refine wpAny_bind (wpAny_pure ?_)
 exact wpAny_bind (wpAny_newObj_type (wpAny_pure ⟨_,rfl,hQ⟩))
theorem xf{v d:Addr}{od:Obj}{es:Array DictEntry}{ep:Nat}{Q:Value→Shared→Prop}(hv:s.heap.IsItemsView v d)(ho:s.heap.get? d=some od)(JC:od.data= .dict es ep)
 (hQ:Q (.ref s.heap.objs.size) {s with heap:=s.heap.push {cls:= .type "dict_itemiterator",data:= .fields #[.none, .bool false, .ref d, .int 0 0, .int es.size 0, .int ep 0, .none, .none]} }):
 wpAny (model prog w) A (pyIter (.ref v)) Q E s:=by
 obtain⟨ov,Qg,Q6,Po⟩:=id hv
 refine wpAny_pyIter_slot hv.typeIs F.slot_dict_items_iter (wpAny_call_entry F.slot_dict_items_iter hv.typeIs F.entry_dict_items_iter ?_ (F.args_dict_items_iter_1 _))
 unfold Builtin.«dict_items.__iter__»
 refine wpAny_bind (wpAny_pure ?_)
 refine wpAny_bind ?_
 unfold Builtin.Dict_items.dictOf
 refine wpAny_bind (wpAny_field Qg Po (x:= .ref d) rfl (wpAny_pure ?_))
 refine wpAny_bind ?_
 unfold Builtin.Dict_items.newIterator
 refine wpAny_bind (wpAny_dictEntries ho JC ?_)
 refine wpAny_bind (wpAny_dictEpoch ho JC ?_)
 have sC:Builtin.Dict_items.ownsTuple "dict_itemiterator"=true:=by decide
 simp only[sC,if_true]
 refine wpAny_newObj_type (wpAny_pure ⟨_,rfl,"dict_itemiterator",_,⟨_,Heap.get?_push_size _ rfl,rfl⟩,F.slot_dict_itemiterator_next.lookup,?_⟩)
  (by simp only[sizeOk,Builtin.Dict_items.ownedTupleFields,List.size_toArray,List.length_append,List.length_cons,List.length_nil,sizeLine_eq];omega)
 simpa[rawInt,Builtin.Dict_items.ownedTupleFields] using hQ
theorem next_item{it d:Addr}{od:Obj}{es:Array DictEntry}{i ep:Nat}{e:DictEntry}{ok ov:Value}{Q:Option Value→Shared→Prop}(hit:IsItemIter s.heap it d i es.size ep ok ov)(sA:s.heap.get? d=some od)(ik:od.data= .dict es ep)(hx:es[i]? =some e)
 (hQ:∀h',IsItemIterOut h' it d (i+1) es.size ep e.key e.val s.heap.objs.size→h'.get? s.heap.objs.size=some {cls:= .type "tuple",data:= .seq #[e.key,e.val]}→h'.objs.size=s.heap.objs.size+1→
  (∀b o,b≠it→s.heap.get? b=some o→h'.get? b=some o)→Q (some (.ref s.heap.objs.size)) {s with heap:=h'}):
 wpAny (model prog w) A (pyNext (.ref it)) Q E s:=by
 obtain⟨hp,g,dr,tk,os⟩:=s
 have hT:Shared.TypeIs ⟨hp,g,dr,tk,os⟩ (.ref it) "dict_itemiterator":=⟨_,hit,rfl⟩
 unfold pyNext
 refine wpAny_bind (wpAny_attempt (wpAny_callSpecial?_slot (name:=Str.ofString "__next__") hT F.slot_dict_itemiterator_next
  (wpAny_call_entry F.slot_dict_itemiterator_next hT F.entry_dict_itemiterator_next ?_ (F.args_dict_itemiterator_next_1 _))))
 refine wpAny_bind (wpAny_pure ?_)
 refine wpAny_bind ?_
 refine wpAny_bind ?_
 first | refine wpAny_bind (wpAny_typeNameOfWhole_itemiter hT (wpAny_pure ?_)) | refine wpAny_bind (wpAny_typeNameOf_itemiter hT (wpAny_pure ?_))
 refine wpAny_bind (wpAny_fieldsOf hit rfl ?_)
 have sC:Builtin.Dict_items.ownsTuple "dict_itemiterator"=true:=by decide
 simp only[sC,if_true]
 show wpAny _ _ (if (Value.ref d==Value.none)=true then _ else _) _ _ _
 rw[if_neg (show¬((Value.ref d==Value.none)=true) from Bool.false_ne_true)]
 refine wpAny_bind (wpAny_pure ?_)
 refine wpAny_bind (wpAny_dictEntries sA ik ?_)
 rw[if_neg (by simp)]
 refine wpAny_bind (wpAny_pure ?_)
 refine wpAny_bind (wpAny_dictEpoch sA ik ?_)
 rw[if_neg (by simp)]
 refine wpAny_pure ?_
 simp only[show¬((i:Int)<0) from by omega,if_false,Int.toNat_natCast,hx]
 refine wpAny_bind ?_
 first | refine wpAny_bind (wpAny_typeNameOfWhole_itemiter hT (wpAny_pure ?_)) | refine wpAny_bind (wpAny_typeNameOf_itemiter hT (wpAny_pure ?_))
 refine wpAny_bind (wpAny_isOneOf_itemiter hT ?_)
 show wpAny _ _ (setField (.ref it) 3 (rawInt ((i:Int)+1))>>=_) _ _ ⟨hp,g,dr,tk,os⟩
 refine wpAny_bind (wpAny_setField_rec hit (by simp) fun h₁ JF JW=>?_)
 replace JW:Heap.SameBut it hp h₁:=JW
 replace JF:IsItemIter h₁ it d (i+1) es.size ep ok ov:=by
  have e:((i+1:Nat):Int)=(i:Int)+1:=by omega
  unfold IsItemIter;rw[e];simpa[rawInt] using JF
 have Mc:Shared.TypeIs ⟨h₁,g,dr,tk,os⟩ (.ref it) "dict_itemiterator":=⟨_,JF,rfl⟩
 refine wpAny_bind (wpAny_holding ?_)
 refine wpAny_bind (wpAny_isOneOf_itemiter Mc ?_)
 refine wpAny_bind (wpAny_isOneOf_itemiter Mc ?_)
 show wpAny _ _ (Builtin.Dict_items.pairFromOwner (.ref it) 6 e.key e.val) _ _ ⟨h₁,g,dr,tk,os⟩
 unfold Builtin.Dict_items.pairFromOwner
 refine wpAny_bind (wpAny_newTuple ?_)
 have JG:IsItemIter (h₁.push {cls:= .type "tuple",data:= .seq #[e.key,e.val]}) it d (i+1) es.size ep ok ov:=Heap.get?_push_of_some _ JF
 generalize Lr:h₁.push {cls:= .type "tuple",data:= .seq #[e.key,e.val]}=h₂ at JG
 have LG:h₁.objs.size=hp.objs.size:=JW.1
 have Ga:it<hp.objs.size:=Heap.lt_size hit
 have Qq:h₂.get? hp.objs.size=some {cls:= .type "tuple",data:= .seq #[e.key,e.val]}:=by rw[←Lr,←LG];exact Heap.get?_push_size _ rfl
 have QD:h₂.objs.size=hp.objs.size+1:=by rw[←Lr,Heap.size_push,LG]
 have PX:∀b o,b≠it→hp.get? b=some o→h₂.get? b=some o:=fun b o hb e=>by rw[←Lr];exact Heap.get?_push_of_some _ (JW.extBut b o hb e)
 show wpAny _ _ (Builtin.Dict_items.ownedTupleIsFree (.ref it)>>=_) _ _ ⟨h₂,g,dr,tk,os⟩
 rw[LG]
 clear Lr JF JW Mc LG h₁
 refine wpAny_bind ?_
 unfold Builtin.Dict_items.ownedTupleIsFree
 refine wpAny_bind (wpAny_field JG rfl (x:= .none) rfl (wpAny_pure ?_))
 simp only[if_true]
 refine wpAny_bind (wpAny_field JG rfl (x:=ok) rfl ?_)
 refine wpAny_bind (wpAny_field JG rfl (x:=ov) rfl ?_)
 refine wpAny_bind (wpAny_setField_rec JG (by simp) fun h₃ Mh Hc=>?_)
 replace Hc:Heap.SameBut it h₂ h₃:=Hc
 replace Mh:IsItemIter h₃ it d (i+1) es.size ep e.key ov:=Mh
 refine wpAny_bind (wpAny_setField_rec Mh (by simp) fun h₄ Mi JX=>?_)
 replace JX:Heap.SameBut it h₃ h₄:=JX
 replace Mi:IsItemIter h₄ it d (i+1) es.size ep e.key e.val:=Mi
 refine wpAny_bind (wpAny_setField_rec Mi (by simp) fun h₅ Mj JY=>?_)
 replace JY:Heap.SameBut it h₄ h₅:=JY
 replace Mj:IsItemIterOut h₅ it d (i+1) es.size ep e.key e.val hp.objs.size:=Mj
 refine wpAny_bind (wpAny_setField_rec Mj (by simp) fun h₆ Ml JZ=>?_)
 replace JZ:Heap.SameBut it h₅ h₆:=JZ
 replace Ml:IsItemIterOut h₆ it d (i+1) es.size ep e.key e.val hp.objs.size:=Ml
 refine wpAny_bind (wpAny_letGo (wpAny_pure (wpAny_pure ⟨_,rfl,wpAny_pure (hQ h₆ Ml ?_ ?_ ?_)⟩)))
 ·exact JZ.extBut _ _ (Nat.ne_of_gt Ga) (JY.extBut _ _ (Nat.ne_of_gt Ga) (JX.extBut _ _ (Nat.ne_of_gt Ga) (Hc.extBut _ _ (Nat.ne_of_gt Ga) Qq)))
 ·show h₆.objs.size=hp.objs.size+1
  rw[JZ.1,JY.1,JX.1,Hc.1,QD]
 ·exact fun b o hb e=>JZ.extBut b o hb (JY.extBut b o hb (JX.extBut b o hb (Hc.extBut b o hb (PX b o hb e))))
theorem zF{it d:Addr}{od:Obj}{es:Array DictEntry}{i ep:Nat}{ok ov:Value}{Q:Option Value→Shared→Prop}(hh:A.handled=none)(hit:IsItemIter s.heap it d i es.size ep ok ov)(Pz:es.size≤i)(sA:s.heap.get? d=some od)(ik:od.data= .dict es ep)
 (hQ:∀h',Heap.ExtBut it s.heap h'→Q none {s with heap:=h'}):wpAny (model prog w) A (pyNext (.ref it)) Q E s:=by
 have hT:s.TypeIs (.ref it) "dict_itemiterator":=⟨_,hit,rfl⟩
 unfold pyNext
 refine wpAny_bind (wpAny_attempt (wpAny_callSpecial?_slot (name:=Str.ofString "__next__") hT F.slot_dict_itemiterator_next
  (wpAny_call_entry F.slot_dict_itemiterator_next hT F.entry_dict_itemiterator_next ?_ (F.args_dict_itemiterator_next_1 _))))
 refine wpAny_bind (wpAny_pure ?_)
 refine wpAny_bind ?_
 refine wpAny_bind ?_
 first | refine wpAny_bind (wpAny_typeNameOfWhole_itemiter hT (wpAny_pure ?_)) | refine wpAny_bind (wpAny_typeNameOf_itemiter hT (wpAny_pure ?_))
 refine wpAny_bind (wpAny_fieldsOf hit rfl ?_)
 have sC:Builtin.Dict_items.ownsTuple "dict_itemiterator"=true:=by decide
 simp only[sC,if_true]
 show wpAny _ _ (if (Value.ref d==Value.none)=true then _ else _) _ _ s
 rw[if_neg (show¬((Value.ref d==Value.none)=true) from Bool.false_ne_true)]
 refine wpAny_bind (wpAny_pure ?_)
 refine wpAny_bind (wpAny_dictEntries sA ik ?_)
 rw[if_neg (by simp)]
 refine wpAny_bind (wpAny_pure ?_)
 refine wpAny_bind (wpAny_dictEpoch sA ik ?_)
 rw[if_neg (by simp)]
 refine wpAny_pure ?_
 simp only[show¬((i:Int)<0) from by omega,if_false,Int.toNat_natCast,Array.getElem?_eq_none Pz]
 refine wpAny_bind ?_
 first | refine wpAny_bind (wpAny_typeNameOfWhole_itemiter hT (wpAny_pure ?_)) | refine wpAny_bind (wpAny_typeNameOf_itemiter hT (wpAny_pure ?_))
 show wpAny _ _ (setField (.ref it) 2 .none>>=_) _ _ s
 refine wpAny_bind (wpAny_setField hit rfl (by simp) ?_)
 show wpAny _ _ (newExc (.type "StopIteration") []>>=_) _ _ _
 refine wpAny_bind ?_
 simp only[newExc,newTuple]
 refine wpAny_bind (wpAny_newObj_type ?_ (by size_fits))
 refine wpAny_bind (m:=firstArgMember _ _) (wpAny_of_eq (a:=Value.none) (by first | rfl | (simp only[firstArgMember];rfl)) ?_)
 refine wpAny_newObj_type ?_ (by size_fits)
 simp only[raiseNew]
 refine wpAny_bind (wpAny_handled ?_)
 rw[show A.in1.handled=none from hh]
 refine wpAny_bind (wpAny_pure (wpAny_throw ?_))
 refine wpAny_bind (wpAny_isInstance (T:="StopIteration") (b:=true) ⟨_,Heap.get?_push_size _ rfl,rfl⟩ isSubtype_stop ?_)
 exact wpAny_pure (hQ _ (((Heap.SameBut.update ..).extBut.push _).push _))
theorem pZ:entryFor table "dict_itemiterator.__iter__"=some Builtin.«dict_keyiterator.__iter__» :=entryFor_alias (id':="dict_keyiterator.__iter__") (by kernel_rfl) rfl (by decide+kernel) (by kernel_rfl)
theorem xR{it d:Addr}{i n ep:Nat}{ok ov:Value}{Q:Value→Shared→Prop}(hit:IsItemIter s.heap it d i n ep ok ov)(h:Q (.ref it) s):wpAny (model prog w) A (pyIter (.ref it)) Q E s:=by
 have hT:s.TypeIs (.ref it) "dict_itemiterator":=⟨_,hit,rfl⟩
 refine wpAny_pyIter_slot hT F.slot_dict_itemiterator_iter (wpAny_call_entry F.slot_dict_itemiterator_iter hT pZ ?_ (F.args_dict_itemiterator_iter_1 _))
 show wpAny _ _ (ret (.ref it)) _ _ s
 exact wpAny_pure ⟨_,rfl,"dict_itemiterator",_,hT,F.slot_dict_itemiterator_next.lookup,h⟩
end
def NF(d:Addr)(od:Obj):It:=
 ⟨fun i H=>∃aw,H d=some (.frz od (.dT aw))∧i<aw.length,fun i H x H'=>∃p aw k v b,x= .ref p∧H p=none∧H d=some (.frz od (.dT aw))∧aw[i]? =some (k,v)∧H b=some (.tup (k.map kV))∧H'=upd H p (.tup [.ref b,v]),
  fun i H=>∃aw,H d=some (.frz od (.dT aw))∧aw.length≤i⟩
theorem lu{X:Cx}{pins:List (Addr×Obj)}{σ:St}{H:Hp}{s:Shared}{d:Addr}{od:Obj}{aw:List (List Key×V)}(I:Inv X pins σ H s)(h:H d=some (.frz od (.dT aw))):
 ∃es ep,(d==sysModules)=false∧s.heap.get? d=some od∧od.ExactDict∧od.data= .dict es ep∧es.size=aw.length∧∀(i:Nat) (k:List Key) (v:V),aw[i]? =some (k,v)→∃(e:DictEntry) (b:Addr),es[i]? =some e∧e.key= .ref b∧H b=some (.tup (k.map kV))∧RelV v e.val:=by
 obtain⟨ho,z,lo,xs,rel,o,es,ep,h1,h2,h3,h4,h5⟩:=(show ObjOk X.prog X.w H s.heap d (.frz od (.dT aw)) from I.hok d _ h)
 rw[ho] at h1
 cases h1
 have hl:es.size=aw.length:=by
  rw[←Array.length_toList,h4,List.length_map]
  exact(Paired.length rel).symm
 refine⟨es,ep,lo,ho,h2,h3,hl,fun i k v hi=>?_⟩
 obtain⟨q,e1,e2,e3,e4⟩:=gX rel hi
 refine⟨entryOfKey (tupleKind (aX X.prog X.w)) q,q.2.1,?_,rfl,e3,e4⟩
 rw[←Array.getElem?_toList,h4,List.getElem?_map,e1]
 rfl
theorem xZ{P:Program}{w:World}{K:W.Frag}{ts:List Expr}{x1}{tp:Pos}(d it:Addr)(od:Obj)(es:Array DictEntry)(ep:Nat)(ik:od.data= .dict es ep):
 Turn P w K (.Tuple ts x1 tp) (NF d od) [it] it (fun i h=>∃ok ov,IsItemIter h it d i es.size ep ok ov) where
 mem:=by simp
 obj:=fun i h ⟨ok,ov,st⟩ b hb=>by
  have e:b=it:=by simpa using hb
  subst e
  exact⟨_,st,fun v z=>nomatch z⟩
 keep:=fun i h h' ⟨ok,ov,st⟩ k=>⟨ok,ov,k it (by simp) _ st⟩
 item:=by
  intro X hP hw hK hc i pins s σ H E I hf st hg
  subst hP hw hK
  obtain⟨ok,ov,st⟩:=st
  obtain⟨aw,e,hi⟩:=hg
  obtain⟨FX,Bh,lo,ho,hx,lA,hsz,hk⟩:=lu I e
  rw[ik] at lA
  cases lA
  obtain⟨en,b,e1,e2,e3,e4⟩:=hk i aw[i].1 aw[i].2 (List.getElem?_eq_getElem hi)
  refine next_item st ho ik e1 fun h1 k1 k2 k3 k4=>?_
  refine⟨_,rfl,wpAny_letOwnedTupleGo_items k1 fun h2 m1 m2=>?_⟩
  have il:s.heap.objs.size≠it:=Nat.ne_of_gt (Heap.lt_size st)
  have Dr:h2.get? s.heap.objs.size=some {cls:= .type "tuple",data:= .seq #[en.key,en.val]}:=(m2.2 _ il).trans k2
  have keep:∀b q,b∉[it]→s.heap.get? b=some q→h2.get? b=some q:=fun b q hb e1=>by
   have GZ:b≠it:=fun z=>hb (by simp[z])
   exact(m2.2 b GZ).trans (k4 b q GZ e1)
  have I2:Inv X pins σ (upd H s.heap.objs.size (.tup [.ref b,aw[i].2])) {s with heap:=h2,toks:=s.toks}:=by
   refine Inv.turnedLaid (s:=s) I keep hf (Nat.le_refl _) ⟨?_,[en.key,en.val], .cons (by rw[e2];rfl) (.cons e4 .nil),_,Dr,rfl,_,rfl⟩
   rw[sizeLine_eq];show 2≤_;decide
  refine⟨.ref s.heap.objs.size,_,I2,rfl,⟨_,aw,aw[i].1,aw[i].2,b,rfl,I.hok.fresh (Nat.le_refl _),e,List.getElem?_eq_getElem hi,e3,rfl⟩,⟨_,_,m1⟩,fun c hc=>?_⟩
  rw[ax (fun z=>by
   have hc:c=it:=by simpa using hc
   exact il (z▸hc).symm.symm)]
  exact(hf c hc).1
 done:=by
  intro X hP hw hK hc i pins s σ H E I hf st hg
  subst hP hw hK
  obtain⟨ok,ov,st⟩:=st
  obtain⟨aw,e,hi⟩:=hg
  obtain⟨FX,Bh,lo,ho,hx,lA,hsz,hk⟩:=lu I e
  rw[ik] at lA
  cases lA
  obtain⟨f0,f1,f2,f3,f4,f5⟩:=hf it (by simp)
  exact zF (I.ok.hd hc) st (by omega) ho ik fun h' eb=>⟨rfl,I.turned (t':=s.toks) (fun b o hb e=>eb b o hb e) f0 f1 f3 f4 f5⟩
 self:=fun _ _ _ _ _ ⟨_,_,st⟩ h=>xR st h
def lF:D→M (List D)
 | .dct ks ds=>if ks.all (fun k=>decide (k.length≤lim)&&k.all mB) then M.ret ((ks.zip ds).map fun q=> .tup [tupK q.1,q.2]) else M.stuck
 |_=>M.stuck
theorem zip_get{α β:Type}{a:List α}{b:List β}{i:Nat}{x:α}{y:β}(h:(a.zip b)[i]? =some (x,y)):a[i]? =some x∧b[i]? =some y:=List.getElem?_zip_eq_some.mp h
theorem zS{K:W.Frag}{F:Hp}{a:Addr}{ob:Obj}{ks:List (List Key)}{ds:List D}{vs:List V}(hF:F a=some (.frz ob (.dT (ks.zip vs))))(hd:DenL K F ds vs)(hl:ks.length=ds.length)(hok:ks.all (fun k=>decide (k.length≤lim)&&k.all mB)=true):ItD K F (NF a ob) ((ks.zip ds).map fun q=> .tup [tupK q.1,q.2]):=fun F' H' i s1 s2=>by
 have hh:=s2 _ _ (s1 _ _ hF)
 have Rc:=hd.len
 have l1:(ks.zip ds).length=ks.length:=by rw[List.length_zip];omega
 have l2:(ks.zip vs).length=ks.length:=by rw[List.length_zip];omega
 refine⟨fun d e=>?_,fun hle=>⟨_,hh,by rw[List.length_map,l1] at hle;omega⟩⟩
 rw[List.getElem?_map] at e
 cases q:(ks.zip ds)[i]? with
 |none=>rw[q] at e;cases e
 |some kd=>
  rw[q] at e
  cases e
  obtain⟨q1,q2⟩:=zip_get (x:=kd.1) (y:=kd.2) q
  have hi:=(List.getElem?_eq_some_iff.mp q1).1
  refine⟨⟨_,hh,by rw[l2];exact hi⟩,fun x H'' ⟨p,aw,k,v,b,y1,y2,y3,y4,y5,y6⟩=>?_⟩
  subst y1 y6
  rw[hh] at y3
  cases y3
  obtain⟨z1,z2⟩:=zip_get y4
  rw[q1] at z1
  cases z1
  obtain⟨v',e1,dv⟩:=hd.get q2
  rw[z2] at e1
  cases e1
  have hk:=List.all_eq_true.mp hok kd.1 (List.mem_of_getElem? q1)
  rw[Bool.and_eq_true] at hk
  have E1:=Ext.tup (F:=F') s2 y5
  have E2:=Ext.lay (o:= .tup [.ref b,v]) E1.fh y2
  refine⟨_,E1.trans E2,p,_,rfl,aE, .cons ⟨b,_,rfl,?_,lG hk.2,by rw[List.length_map];exact of_decide_eq_true hk.1⟩ (.cons (Den.mono (E1.trans E2).ff (Den.mono s1 dv)) .nil),by show 2≤lim;decide⟩
  exact E2.ff _ _ aE
section
variable{X:Cx}{Xw:Nat→Hp→Prop}{o:Expr}{ts:List Expr}{δ:DE}{tp apos aT:Pos}{x1:Nat}
theorem Am(h:PD X Xw o δ)(fE:attributeBase o "items" X.env (eval o X.env)=eval o X.env:=by rfl)(fF:(apos.endLine==aT.line)=true:=by rfl):wA X Xw (.Tuple ts x1 tp) (.Call (.Attribute o "items" apos) [] [] aT) (fun ρ=>δ ρ>>=lF):=by
 intro pins s σ H R I ⟨F,ρ,S,w⟩
 refine wpAny_Call_method0_late fE fF (bN (h pins s σ H (fun v H1=>∃F1 d,Ext F H F1 H1∧Den X.K F1 d v∧WPI X.K Xw F1 H1 (lF d) R) I ⟨F,ρ,S,WPI.bind w⟩) fun u s1 ⟨v,H1,I1,r1,F1,d,e1,q1,w1⟩=>?_)
 unfold lF at w1
 split at w1
 ·rename_i ks ds
  split at w1
  ·rename_i hok
   obtain⟨a,ob,vs,rfl,h2,h3,h4,h5⟩:=q1
   cases (show u=_ from r1)
   obtain⟨es,ep,lo,ho,hx,hd,hsz,hk⟩:=lu I1 (e1.fh _ _ h2)
   refine⟨"dict","dict.items",PySem.F.plainAttrs_dict,PySem.F.slot_dict_items,PySem.F.type_dict_items,⟨ob,ho,hx.1⟩,?_,?_⟩
   ·rintro _ ⟨⟩
    exact⟨ob,ho,hx.2.1⟩
   ·refine Calls.callWith_builtin rfl (PySem.evalArgs_none ?_)
    refine yb lo ho hx hd ?_
    refine xf ⟨_,Heap.get?_push_size _ rfl,rfl,rfl⟩ (Heap.get?_push_of_some _ ho) hd ?_
    refine⟨_,[_],_,_,H1,rfl,I1.kept (t':=s1.toks) fun b o e=>Heap.get?_push_of_some _ (Heap.get?_push_of_some _ e),xZ a _ ob es ep hd,⟨_,_,Heap.get?_push_size _ rfl⟩,fun b hb=>?_,w1 _ _ _ (Ext.refl e1.fh) (zS h2 h3 h4 hok)⟩
    have e:b=(s1.heap.push {cls:= .type "dict_items",data:= .fields #[.ref a]}).objs.size:=by simpa using hb
    subst e
    exact I1.fpOk (by rw[Heap.size_push];exact Nat.le_succ _) (I1.hok.fresh (by rw[Heap.size_push];exact Nat.le_succ _))
  ·exact w1.elim
 ·exact w1.elim
end
def NG(K:W.Frag)(a b:Addr):It:=
 ⟨fun i H=>∃xs ys x y,SqL K H a xs∧SqL K H b ys∧xs[i]? =some x∧ys[i]? =some y,fun i H x H'=>∃p,x= .ref p∧H p=none∧∃v u,(∀xs,SqL K H a xs→xs[i]? =some v)∧(∀ys,SqL K H b ys→ys[i]? =some u)∧H'=upd H p (.tup [v,u]),
  fun i H=>∃xs ys,SqL K H a xs∧SqL K H b ys∧(xs.length≤i∨ys.length≤i)⟩
structure Zp (h:Heap) (z TI TO i1 i2 l1 l2:Addr) (i:Nat):Prop where
 z:IsZip h z TI TO .none
 ti:IsPair h TI (.ref i1) (.ref i2)
 to:∃a b,IsPair h TO a b
 a:h.IsListIter i1 l1 i
 b:h.IsListIter i2 l2 i
theorem Dt{P:Program}{w:World}{K:W.Frag}{ts:List Expr}{x1}{tp:Pos}(l1 l2 z TI TO i1 i2:Addr)(D:ZipApart z TI TO i1 i2 l1 l2):
 Turn P w K (.Tuple ts x1 tp) (NG K l1 l2) [z,TI,TO,i1,i2] z (fun i h=>Zp h z TI TO i1 i2 l1 l2 i) where
 mem:=by simp
 obj:=fun i h st c hc=>by
  simp only[List.mem_cons,List.not_mem_nil,or_false] at hc
  rcases hc with rfl | rfl | rfl | rfl | rfl
  ·exact⟨_,st.z,fun v q=>nomatch q⟩
  ·exact⟨_,st.ti,fun v q=>nomatch q⟩
  ·obtain⟨a,b,q⟩:=st.to;exact⟨_,q,fun v q=>nomatch q⟩
  ·obtain⟨o,e,c,d⟩:=st.a;exact⟨o,e,fun v q=>by rw[d] at q;cases q⟩
  ·obtain⟨o,e,c,d⟩:=st.b;exact⟨o,e,fun v q=>by rw[d] at q;cases q⟩
 keep:=fun i h h' st k=>⟨k z (by simp) _ st.z,k TI (by simp) _ st.ti,let ⟨a,b,q⟩:=st.to;⟨a,b,k TO (by simp) _ q⟩,st.a.at fun o q=>k i1 (by simp) o q,st.b.at fun o q=>k i2 (by simp) o q⟩
 item:=by
  intro X hP hw hK hc i pins s σ H E I hf st hg
  subst hP hw hK
  obtain⟨xs,ys,x,y,Ly,Lz,hx,hy⟩:=hg
  obtain⟨aB,rv,p,hz⟩:=I.list Ly
  obtain⟨fH,LM,p2,Ow⟩:=I.list Lz
  obtain⟨u,hu,ru⟩:=rv.get hx
  obtain⟨u2,Qt,QN⟩:=LM.get hy
  obtain⟨a0,b0,Ln⟩:=st.to
  refine wpAny_pyNext_zip_item D st.z st.ti Ln st.a st.b p.isList p2.isList (x:=u) (y:=u2) (by simpa using hu) (by simpa using Qt) fun h1 k1 k2 k3 k4 k5 k6 k7=>?_
  refine⟨_,rfl,wpAny_letOwnedTupleGo_zip k1 fun h2 m1 m2=>?_⟩
  replace m2:Heap.SameBut z h1 h2:=m2
  have il:s.heap.objs.size≠z:=Nat.ne_of_gt (Heap.lt_size st.z)
  have Dr:h2.get? s.heap.objs.size=some {cls:= .type "tuple",data:= .seq #[u,u2]}:=(m2.2 _ il).trans k5
  have keep:∀b q,b∉[z,TI,TO,i1,i2]→s.heap.get? b=some q→h2.get? b=some q:=fun b q hb e1=>by
   simp only[List.mem_cons,List.not_mem_nil,or_false,not_or] at hb
   exact(m2.2 b hb.1).trans (k7 b q hb.1 hb.2.2.1 hb.2.2.2.1 hb.2.2.2.2 e1)
  have I2:Inv X pins σ (upd H s.heap.objs.size (.tup [x,y])) {s with heap:=h2,toks:=s.toks}:=by
   refine Inv.turnedLaid (s:=s) I keep hf (Nat.le_refl _) ⟨?_,[u,u2], .cons ru (.cons QN .nil),_,Dr,rfl,_,rfl⟩
   rw[sizeLine_eq];show 2≤_;decide
  have up:∀c o,c≠z→h1.get? c=some o→h2.get? c=some o:=fun c o q e=>(m2.2 c q).trans e
  refine⟨.ref s.heap.objs.size,_,I2,rfl,⟨_,rfl,I.hok.fresh (Nat.le_refl _),x,y,fun Rm J1=>by rw[I.list_inj J1 Ly];exact hx,fun Rn Qy=>by rw[I.list_inj Qy Lz];exact hy,rfl⟩,⟨m1,up _ _ D.TIz (k7 _ _ D.TIz D.TITO D.TIi1 D.TIi2 st.ti),⟨_,_,up _ _ D.TOz k2⟩,k3.at fun o q=>up _ o D.i1z q,k4.at fun o q=>up _ o D.i2z q⟩,fun b hb=>?_⟩
  rw[ax (fun q=>?_)]
  ·exact(hf b hb).1
  ·obtain⟨o,e1,_⟩:∃o,s.heap.get? b=some o∧True:=by
    simp only[List.mem_cons,List.not_mem_nil,or_false] at hb
    rcases hb with rfl | rfl | rfl | rfl | rfl
    ·exact⟨_,st.z,trivial⟩
    ·exact⟨_,st.ti,trivial⟩
    ·exact⟨_,Ln,trivial⟩
    ·obtain⟨o,e,_⟩:=st.a;exact⟨o,e,trivial⟩
    ·obtain⟨o,e,_⟩:=st.b;exact⟨o,e,trivial⟩
   exact absurd (Heap.lt_size e1) (by rw[q];exact Nat.lt_irrefl _)
 done:=by
  intro X hP hw hK hc i pins s σ H E I hf st hg
  subst hP hw hK
  obtain⟨xs,ys,Ly,Lz,hi⟩:=hg
  obtain⟨aB,rv,p,hz⟩:=I.list Ly
  obtain⟨fH,LM,p2,Ow⟩:=I.list Lz
  obtain⟨a0,b0,Ln⟩:=st.to
  have hl:=rv.length
  have G4:=LM.length
  refine wpAny_pyNext_zip_end (I.ok.hd hc) D st.z st.ti Ln st.a st.b p.isList p2.isList ?_ fun h' eb=>⟨rfl,Inv.turnedL (t':=s.toks) (ch:=[z,TI,TO,i1,i2]) I (fun b q hb e1=>?_) hf⟩
  ·rcases hi with hi | hi
   ·exact .inl (by simp;omega)
   ·exact .inr (by simp;omega)
  ·simp only[List.mem_cons,List.not_mem_nil,or_false,not_or] at hb
   exact eb b q hb.1 hb.2.2.1 hb.2.2.2.1 hb.2.2.2.2 e1
 self:=fun A i s Q E st h=>wpAny_pyIter_zip st.z h
def Dx:List D→M (List D)
 |[.lst xs, .lst ys]=>M.ret ((xs.zip ys).map fun q=> .tup [q.1,q.2])
 |_=>M.stuck
theorem Ek{K:W.Frag}{F:Hp}{a b:Addr}{vs us:List V}{ds es:List D}(h:SqL K F a vs)(hd:DenL K F ds vs)(h':SqL K F b us)(lA:DenL K F es us):ItD K F (NG K a b) ((ds.zip es).map fun q=> .tup [q.1,q.2]):=fun F' H' i s1 s2=>by
 have hs:=Same.seq s2 (Same.seq s1 h)
 have w_:=Same.seq s2 (Same.seq s1 h')
 refine⟨fun d e=>?_,fun hl=>⟨vs,us,hs,w_,?_⟩⟩
 ·rw[List.getElem?_map] at e
  cases q:(ds.zip es)[i]? with
  |none=>rw[q] at e;cases e
  |some kd=>
   rw[q] at e
   cases e
   obtain⟨q1,q2⟩:=zip_get (x:=kd.1) (y:=kd.2) q
   obtain⟨v,e1,d1⟩:=hd.get q1
   obtain⟨u,e2,d2⟩:=lA.get q2
   refine⟨⟨vs,us,v,u,hs,w_,e1,e2⟩,fun x H'' ⟨p,y1,y2,v',u',y3,y4,y5⟩=>?_⟩
   subst y1 y5
   have z1:=y3 vs hs
   have z2:=y4 us w_
   rw[e1] at z1
   rw[e2] at z2
   cases z1
   cases z2
   have E:=Ext.lay (o:= .tup [v,u]) s2 y2
   exact⟨_,E,p,_,rfl,aE, .cons (Den.mono E.ff (Den.mono s1 d1)) (.cons (Den.mono E.ff (Den.mono s1 d2)) .nil),by show 2≤lim;decide⟩
 ·rw[List.length_map,List.length_zip] at hl
  have l1:=hd.len
  have l2:=lA.len
  omega
section
variable{X:Cx}{Xw:Nat→Hp→Prop}{e e2:Expr}{es:List Expr}{δs:DA}{pos p tp:Pos}{x1:Nat}
theorem EZ(hg:Gl X "zip")(hm:X.mg "zip"=none)(ha:lg X Xw [e,e2] δs)(hs:starEach [e,e2] X.env=(false,eval e X.env)::starEach [e2] X.env:=by rfl)(pS:(backTo pos (starEach [e2] X.env)).any (·.1)=false:=by rfl):wA X Xw (.Tuple es x1 tp) (.Call (.Name "zip" p) [e,e2] [] pos) (fun ρ=>δs ρ>>=Dx):=by
 intro pins s σ H R I ⟨F,ρ,S,w⟩
 refine Call_ (gQ I hg hm (show bootBuiltins "zip"=some (.type "zip") from rfl) (PyProof.Rows.callWith_type1 (bN (ha pos pins s σ H (fun vs H1=>∃F1 ds,Ext F H F1 H1∧DenL X.K F1 ds vs∧WPI X.K Xw F1 H1 (Dx ds) R) I ⟨F,ρ,S,WPI.bindL w⟩) fun us s1 ⟨vs,H1,I1,r1,F1,ds,e1,q1,w1⟩=>?_) hs pS))
 unfold Dx at w1
 split at w1
 ·rename_i ds es
  obtain⟨v,v',rfl,q1,q2⟩:=q1.two
  obtain⟨a,xs,rfl,h2,h3,h4⟩:=q1
  obtain⟨b,ys,rfl,g2,g3,g4⟩:=q2
  obtain⟨u,u',rfl,rx,ry⟩:=vals2 r1
  cases (show u=_ from rx)
  cases (show u'=_ from ry)
  obtain⟨aB,rv,pl,hz⟩:=I1.list (SqL.of (K:=X.K) (e1.fh _ _ h2))
  obtain⟨fH,LM,OM,Ow⟩:=I1.list (SqL.of (K:=X.K) (e1.fh _ _ g2))
  have la:a<s1.heap.objs.size:=by obtain⟨o,e,_⟩:=pl.isList;exact Heap.lt_size e
  have lb:b<s1.heap.objs.size:=by obtain⟨o,e,_⟩:=OM.isList;exact Heap.lt_size e
  refine call_zip_2 pl.isList OM.isList fun h' k1 k2 k3 k4 k5 k6 k7=>?_
  refine wpAny_pyIter_zip k1 ?_
  refine⟨s1.heap.objs.size+4,[s1.heap.objs.size+4,s1.heap.objs.size+2,s1.heap.objs.size+3,s1.heap.objs.size,s1.heap.objs.size+1],_,_,H1,rfl,I1.kept (t':=s1.toks) fun b o e=>k7 b o e,Dt a b _ _ _ _ _ ?_,⟨k1,k2,⟨_,_,k3⟩,k4,k5⟩,fun c hc=>?_,w1 _ _ _ (Ext.refl e1.fh) (Ek (SqL.of h2) h3 (SqL.of g2) g3)⟩
  ·constructor<;>(unfold Addr at*;omega)
  ·have e:s1.heap.objs.size≤c:=by
    simp only[List.mem_cons,List.not_mem_nil,or_false] at hc
    unfold Addr at*
    omega
   exact I1.fpOk e (I1.hok.fresh e)
 ·exact w1.elim
end
section
variable{X:Cx}{Xw:Nat→Hp→Prop}{a b:Expr}{δa δb:DE}{pos:Pos}
theorem H_(ha:PD X Xw a δa)(hb:PD X Xw b δb)(hm:behindInMarks .In b=false:=by rfl):k9 X Xw (.Compare a [.In] [b] pos) (bS (d2 (uY false) δa δb)):=dH Af BF ha hb hm
end
end L3
namespace L3
def KW(n:Nat)(δs:DA):DS:=fun _=>M.stuck
end L3
namespace K1
open PySem PySem.Spec L2 L3
open PyProof.Rows hiding St
def yg:DS:=(ba (fw (dA ij (aC (dV 0) (aC (dC (.raw (.ty "int"))) aN))) (FT (dA ij (aC (dV 0) (aC (dC (.raw (.ty "bool"))) aN))))))
def aW:List D→M D:=bO 1 (yg)
def wo:DS:=(ba (fw (dA ij (aC (dV 0) (aC (dC (.raw (.ty "str"))) aN))) (fw (d2 nu (dA bb (aC (dV 0) aN)) (dC (.int 1))) (d2 (p5 false) (dV 0) (dC (.str "abcdef"))))))
def cW:List D→M D:=bO 1 (wo)
def pM:DS:=(ba (bw 0 (fun ρ=>(aC (dA bb (aC (d2 bq (dV 0) (dC (.int 0))) aN)) aN) ρ>>=iV) b_ (dA dq (aC (dV 2) (aC (dV 0) aN)))))
def bh:List D→M D:=bO 2 (pM)
def wx:DS:=(ba (d2 su (d2 bq (dV 0) (d2 bq (dV 1) (dC (.int 0)))) (d2 bq (dV 1) (dC (.int 1)))))
def aO:List D→M D:=bO 2 (wx)
def ye:DS:=(aA (bD 3 (dA AU (aC (d2 nY (d2 bq (dV 0) (dC (.int 0))) (d2 bq (dV 1) (dC (.int 0)))) aN))) (aA (bD 4 (dA AU (aC (d2 nY (d2 bq (dV 0) (dC (.int 1))) (d2 bq (dV 1) (dC (.int 1)))) aN))) (aA (gc (bS (d2 nu (dV 2) (dC (.int 4)))) (ba (d2 nu (d2 c6 (dV 3) (dV 4)) (dC (.int 1)))) cF) (ba (d2 nu (dA xj (aC (dV 3) (aC (dV 4) aN))) (dC (.int 1)))))))
def dO:List D→M D:=bO 5 (ye)
def FL:DS:=(aA (vU 1) (aA (fun ρ=>noex ((eD (putN 2) (Hf (dU (dV 0)) (fun ρ=>(dV 0) ρ>>=me)) (cI [2] (ig 1 (dV 2) (dC (.bl true))))) ρ)) (zc 1 (ba (dV 1)))))
def fS:List D→M D:=bO 3 (FL)
def pO:DS:=(aA (gc (bS (d2 nu (dV 0) (dA fW aN))) (ba (d2 iA (dC (.int 7)) (dV 1))) cF) (ba (d2 c6 (d2 Bq (dV 0) (d2 kg (dV 1) (dA bb (aC (dV 0) aN)))) (d2 iA (dC (.int 6553)) (d2 p4 (dV 1) (dA bb (aC (dV 0) aN)))))))
def fC:List D→M D:=bO 2 (pO)
def wq:DS:=(aA (gc (jP (cH (cx (dA ij (aC (dV 0) (aC (dC (.raw (.ty "str"))) aN))))) (cH (bS (uF (fun i j=>decide (i≤j)) (fun i j=>decide (i≤j)) (dC (.int 1)) (dA bb (aC (dV 0) aN)) (dC (.int 8)))))) (ba (dC (.bl false))) cF) (ba (dA allM (aC (bw 0 (fun ρ=>(dV 0) ρ>>=Fx) b_ (ak 1 cW (aC (dV 0) aN))) aN))))
def fB:List D→M D:=bO 1 (wq)
def rW:DS:=(aA (gc (jP (cH (cx (dA ij (aC (dV 1) (aC (dC (.raw (.ty "tuple"))) aN))))) (bS (d2 qJ (dA bb (aC (dV 1) aN)) (dC (.int 2))))) (ba (dC (.bl false))) cF) (aA (gc (jP (cH (cx (ak 1 aW (aC (d2 bq (dV 1) (dC (.int 0))) aN)))) (cH (cx (ak 1 aW (aC (d2 bq (dV 1) (dC (.int 1))) aN))))) (ba (dC (.bl false))) cF) (ba (fw (uF (fun i j=>decide (i≤j)) (fun i j=>decide (i<j)) (dC (.int 0)) (d2 bq (dV 1) (dC (.int 0))) (dA bb (aC (dV 0) aN))) (uF (fun i j=>decide (i≤j)) (fun i j=>decide (i<j)) (dC (.int 0)) (d2 bq (dV 1) (dC (.int 1))) (dA bb (aC (d2 bq (dV 0) (dC (.int 0))) aN)))))))
def jf:List D→M D:=bO 2 (rW)
def wz:DS:=(gc (jP (cH (cx (ak 1 aW (aC (dV 0) aN)))) (bS (d2 (uY true) (dV 0) (dA dq (aC (dC (.int 4)) (aC (dC (.int 8)) aN)))))) (KW 1 (aC (dC (.str "ways are 4 or 8")) aN)) cF)
def bI:List D→M D:=bO 1 (wz)
def wk:DS:=(aA (tV 1) (aA (fun ρ=>noex ((eD (putN 2) (fun ρ=>(aC (dA bb (aC (dV 0) aN)) aN) ρ>>=iV) (cI [2] (C4 1 (ak 2 bh (aC (dV 0) (aC (dV 2) aN)))))) ρ)) (zc 1 (ba (dV 1)))))
def cq:List D→M D:=bO 3 (wk)
def uq:DS:=(aA (tV 3) (aA (fun ρ=>noex ((eD (putN 4) (fun ρ=>(aC (dA xj (aC (d2 nY (d2 bq (dV 1) (dC (.int 0))) (dC (.int 1))) (aC (dC (.int 0)) aN))) (aC (dA z6 (aC (d2 c6 (d2 bq (dV 1) (dC (.int 0))) (dC (.int 2))) (aC (dA bb (aC (dV 0) aN)) aN))) aN)) ρ>>=rM) (cI [4,5] (eD (putN 5) (fun ρ=>(aC (dA xj (aC (d2 nY (d2 bq (dV 1) (dC (.int 1))) (dC (.int 1))) (aC (dC (.int 0)) aN))) (aC (dA z6 (aC (d2 c6 (d2 bq (dV 1) (dC (.int 1))) (dC (.int 2))) (aC (dA bb (aC (d2 bq (dV 0) (dC (.int 0))) aN)) aN))) aN)) ρ>>=rM) (cI [5] (gc (cx (ak 3 dO (aC (dV 1) (aC (dA dq (aC (dV 4) (aC (dV 5) aN))) (aC (dV 2) aN))))) (jx 3 (dA dq (aC (dV 4) (aC (dV 5) aN)))) cF))))) ρ)) (zc 3 (ba (dV 3)))))
def bj:List D→M D:=bO 6 (uq)
def mO:DS:=(aA (bD 3 (d2 kg (d2 c6 (d2 iA (d2 kg (ak 2 fC (aC (dV 0) (aC (dV 1) aN))) (dC (.int 2147483563))) (dC (.int 69069))) (d2 iA (dC (.int 104723)) (d2 c6 (dV 1) (dC (.int 1))))) (dC (.int 2147483563)))) (aA (bD 3 (d2 kg (d2 c6 (d2 iA (dV 3) (dV 3)) (d2 p4 (dV 3) (dC (.int 3)))) (dC (.int 2147483399)))) (ba (d2 kg (d2 p4 (d2 kg (d2 c6 (d2 iA (dV 3) (dV 3)) (d2 p4 (dV 3) (dC (.int 7)))) (dC (.int 2147483647))) (dC (.int 11))) (dV 2)))))
def aH:List D→M D:=bO 4 (mO)
def pN:DS:=(aA (gc (jP (cH (cx (dA ij (aC (dV 0) (aC (dC (.raw (.ty "tuple"))) aN))))) (cH (bS (uF (fun i j=>decide (i≤j)) (fun i j=>decide (i≤j)) (dC (.int 1)) (dA bb (aC (dV 0) aN)) (dC (.int 8)))))) (ba (dC (.bl false))) cF) (aA (gc (cH (cx (dA allM (aC (bw 0 (wU (dV 0)) b_ (ak 1 fB (aC (dV 0) aN))) aN)))) (ba (dC (.bl false))) cF) (ba (dA allM (aC (bw 0 (wU (dV 0)) b_ (d2 nu (dA bb (aC (dV 0) aN)) (dA bb (aC (d2 bq (dV 1) (dC (.int 0))) aN)))) aN)))))
def gO:List D→M D:=bO 1 (pN)
def wy:DS:=(gc (cH (cx (ak 2 jf (aC (dV 0) (aC (dV 1) aN))))) (KW 2 (aC (dC (.str "a tuple (row, column) on the board is asked for")) aN)) cF)
def fT:List D→M D:=bO 2 (wy)
def uk:DS:=(aA (bD 3 (ak 2 aO (aC (dV 0) (aC (dV 1) aN)))) (ba (bw 0 (dU (ak 3 bj (aC (dV 0) (aC (dV 1) (aC (dV 2) aN))))) (bS (d2 nu (ak 2 aO (aC (dV 1) (aC (dV 0) aN))) (dV 4))) (dV 0))))
def cy:List D→M D:=bO 4 (uk)
def wt:DS:=(aA (bD 3 (d2 c6 (dC (.int 1)) (ak 3 aH (aC (dV 0) (aC (dV 1) (aC (dV 2) aN)))))) (aA (bD 4 (d2 c6 (dC (.int 1)) (ak 3 aH (aC (dV 0) (aC (d2 c6 (dV 1) (dC (.int 1))) (aC (dV 2) aN)))))) (aA (bD 5 (d2 c7 (dA fW (aC (dC (.str "ab")) (aC (dC (.str "abc")) (aC (dC (.str "aab")) (aC (dC (.str "fa")) aN))))) (ak 3 aH (aC (dV 0) (aC (d2 c6 (dV 1) (dC (.int 2))) (aC (dC (.int 4)) aN)))))) (aA (bD 6 (dA dq aN)) (aA (fun ρ=>noex ((eD (putN 7) (fun ρ=>(aC (dV 3) aN) ρ>>=iV) (cI [7,8] (aA (bD 8 (bw 0 (fun ρ=>(aC (dV 4) aN) ρ>>=iV) b_ (d2 su (dV 6) (ak 3 aH (aC (dV 1) (aC (d2 c6 (d2 c6 (d2 c6 (dV 2) (dC (.int 3))) (d2 iA (dC (.int 7)) (dV 8))) (dV 0)) (aC (dA bb (aC (dV 6) aN)) aN))))))) (bD 6 (d2 uX (dV 6) (dA dq (aC (dM sG joinM (dC (.str "")) (aC (dV 8) aN)) aN))))))) ρ)) (ba (dV 6)))))))
def eN:List D→M D:=bO 9 (wt)
def uo:DS:=(gc (cH (cx (ak 1 gO (aC (dV 0) aN)))) (KW 0 (aC (dC (.str "a tuple of 1 to 8 texts of 1 to 8 letters, all as long, is asked for")) aN)) cF)
def aV:List D→M D:=bO 1 (uo)
def uu:DS:=(aA (C6 3 (fun ρ=>(dV 1) ρ>>=fun x=>(dC .non) ρ>>=fun y=>qF x y)) (aA (bD 4 (dA fW (aC (dV 1) aN))) (aA (fun ρ=>noex ((xN (cx (dV 4)) (cI [5,6,7] (aA (tV 5) (aA (eD (putN 6) (dU (dV 4)) (cI [6,7] (eD (putN 7) (dU (ak 3 cy (aC (dV 0) (aC (dV 6) (aC (dV 2) aN))))) (cI [7] (gc (Gy (bS (d2 (iz true) (dV 7) (dV 3)))) (aA (ig 3 (dV 7) (dV 6)) (jx 5 (dV 7))) cF))))) (zc 5 (bD 4 (dV 5))))))) ρ)) (zc 3 (ba (dV 3))))))
def cz:List D→M D:=bO 8 (uu)
def ur:DS:=(aA (vU 1) (aA (fun ρ=>noex ((eD (pb [2,3]) (fun ρ=>(aC (dV 0) aN) ρ>>=yy) (cI [2,3,4] (eD (putN 4) (dU (dV 3)) (cI [4] (ig 1 (dV 4) (dV 2)))))) ρ)) (zc 1 (ba (dV 1)))))
def e8:List D→M D:=bO 5 (ur)
def pR:DS:=(aA (bD 3 (ak 1 fS (aC (dV 1) aN))) (aA (tV 4) (aA (fun ρ=>noex ((eD (putN 5) (fun ρ=>(aC (dA bb (aC (dV 0) aN)) aN) ρ>>=iV) (cI [5,6] (aA (bD 6 (ak 2 bh (aC (dV 0) (aC (dV 5) aN)))) (jx 4 (dM sG joinM (dC (.str "")) (aC (bw 0 (dU (dV 6)) b_ (FR (bS (d2 (iz false) (dV 0) (dV 4))) (dV 3) (ak 2 aO (aC (dV 1) (aC (dV 0) aN))))) aN)))))) ρ)) (zc 4 (ba (dA Ds (aC (dV 4) aN)))))))
def cg:List D→M D:=bO 7 (pR)
def qt:DS:=(gc (jP (cH (cx (ak 1 aW (aC (dV 1) aN)))) (cH (bS (uF (fun i j=>decide (i≤j)) (fun i j=>decide (i<j)) (dC (.int 0)) (dV 1) (dV 0))))) (KW 4 (aC (dC (.str "the number of a patch of the board is asked for")) aN)) cF)
def eG:List D→M D:=bO 2 (qt)
def pQ:DS:=(aA (bD 2 (ak 1 e8 (aC (dV 1) aN))) (aA (vU 3) (aA (fun ρ=>noex ((eD (putN 4) (dU (ak 1 cq (aC (dV 0) aN))) (cI [4,5,6] (eD (putN 5) (dU (ak 3 bj (aC (dV 0) (aC (dV 4) (aC (dC (.int 4)) aN))))) (cI [5,6] (gc (bS (d2 Js (d2 jT (dV 2) (dV 4)) (d2 jT (dV 2) (dV 5)))) (aA (bD 6 (dA dq (aC (d2 jT (dV 2) (dV 4)) (aC (d2 jT (dV 2) (dV 5)) aN)))) (ig 3 (dV 6) (Ji (d2 c6 (uL (dV 3) (dV 6) (dC (.int 0))) (dC (.int 1)))))) cF))))) ρ)) (zc 3 (ba (dV 3))))))
def cf:List D→M D:=bO 7 (pQ)
def um:DS:=(aA (tV 3) (aA (fun ρ=>noex ((eD (pb [4,5]) (fun ρ=>(ak 2 cf (aC (dV 0) (aC (dV 1) aN))) ρ>>=lF) (cI [4,5,6] (gc (bS (d2 (uY false) (dV 2) (dV 4))) (aA (bD 6 (d2 nY (d2 c6 (d2 bq (dV 4) (dC (.int 0))) (d2 bq (dV 4) (dC (.int 1)))) (dV 2))) (jx 3 (dA dq (aC (d1 sP (dV 5)) (aC (d1 sP (dA bb (aC (d2 c7 (dV 1) (dV 6)) aN))) (aC (dV 6) aN)))))) cF))) ρ)) (zc 3 (ba (d2 bq (dA sN (aC (dV 3) aN)) (dC (.int 2)))))))
def dY:List D→M D:=bO 7 (um)
def wu:DS:=(aA (g7 (ak 1 aV (aC (dV 0) aN))) (aA (g7 (ak 2 fT (aC (dV 0) (aC (dV 1) aN)))) (ba (ak 2 aO (aC (dV 0) (aC (dV 1) aN))))))
def bo:List D→M D:=bO 2 (wu)
def AI:DS:=(aA (g7 (ak 1 aV (aC (dV 0) aN))) (aA (bD 1 (dM sG joinM (dC (.str "")) (aC (dV 0) aN))) (ba (bw 0 (fun ρ=>(dC (.str "abcdef")) ρ>>=Fx) (bS (d2 (p5 false) (dV 0) (dV 2))) (dA dq (aC (dV 0) (aC (dM sG uG (dV 2) (aC (dV 0) aN)) aN)))))))
def cb:List D→M D:=bO 2 (AI)
def qq:DS:=(aA (tV 2) (aA (vU 3) (aA (fun ρ=>noex ((eD (putN 4) (dU (ak 1 cq (aC (dV 0) aN))) (cI [4,5] (gc (Gy (bS (d2 (iz true) (dV 4) (dV 3)))) (aA (bD 5 (dA rQ (aC (ak 3 cz (aC (dV 0) (aC (dV 4) (aC (dV 1) aN)))) aN))) (aA (jx 2 (dV 5)) (Au 3 (ak 1 fS (aC (dV 5) aN))))) cF))) ρ)) (zc 2 (ba (dV 2))))))
def a6:List D→M D:=bO 6 (qq)
def pP:DS:=(aA (g7 (ak 1 aV (aC (dV 0) aN))) (aA (g7 (ak 1 bI (aC (dV 1) aN))) (gc (jP (cH (cx (ak 1 aW (aC (dV 2) aN)))) (cH (bS (uF (fun i j=>decide (i≤j)) (fun i j=>decide (i≤j)) (dC (.int 1)) (dV 2) (dC (.int 64)))))) (KW 4 (aC (dC (.str "a least number of cells from 1 to 64 is asked for")) aN)) cF)))
def bx:List D→M D:=bO 3 (pP)
def AJ:DS:=(aA (g7 (ak 1 aV (aC (dV 0) aN))) (aA (g7 (ak 1 bI (aC (dV 1) aN))) (ba (ak 2 a6 (aC (dV 0) (aC (dV 1) aN))))))
def er:List D→M D:=bO 2 (AJ)
def yf:DS:=(aA (g7 (ak 1 aV (aC (dV 0) aN))) (aA (g7 (ak 1 bI (aC (dV 1) aN))) (ba (dA bb (aC (ak 2 a6 (aC (dV 0) (aC (dV 1) aN))) aN)))))
def bC:List D→M D:=bO 2 (yf)
def k8:DS:=(aA (g7 (ak 1 aV (aC (dV 0) aN))) (aA (g7 (ak 1 bI (aC (dV 1) aN))) (aA (bD 3 (ak 2 a6 (aC (dV 0) (aC (dV 1) aN)))) (aA (g7 (ak 2 eG (aC (dA bb (aC (dV 3) aN)) (aC (dV 2) aN)))) (ba (d2 c7 (dV 3) (dV 2)))))))
def cQ:List D→M D:=bO 4 (k8)
def wj:DS:=(aA (bD 3 (ak 2 a6 (aC (dV 0) (aC (dV 1) aN)))) (aA (bD 4 (bw 0 (dU (dV 3)) b_ (dA bb (aC (dV 0) aN)))) (aA (gc (jP (bS (d2 nu (dA bb (aC (dV 3) aN)) (dC (.int 1)))) (bS (d2 AN (dA iG (aC (dV 4) aN)) (dV 2)))) (ba (dC .non)) cF) (aA (bD 5 (dM qP u6 (dV 4) (aC (dA iG (aC (dV 4) aN)) aN))) (aA (bD 6 (ak 3 dY (aC (dV 0) (aC (dV 3) (aC (dV 5) aN))))) (ba (ak 3 cg (aC (dV 0) (aC (d2 c7 (dV 3) (dV 5)) (aC (ak 2 aO (aC (dV 0) (aC (d2 c7 (d2 c7 (dV 3) (dV 6)) (dC (.int 0))) aN))) aN))))))))))
def a9:List D→M D:=bO 7 (wj)
def ID:DS:=(ba (dA bb (aC (ak 3 cQ (aC (dV 0) (aC (dV 1) (aC (dV 2) aN)))) aN)))
def lx:List D→M D:=bO 3 (ID)
def wm:DS:=(aA (tV 3) (aA (bD 4 (dV 0)) (aA (fun ρ=>noex ((xN (bS (d2 (zI true) (dV 4) (dC .non))) (aA (jx 3 (dV 4)) (bD 4 (ak 3 a9 (aC (dV 4) (aC (dV 1) (aC (dV 2) aN))))))) ρ)) (zc 3 (ba (dV 3))))))
def bU:List D→M D:=bO 5 (wm)
def qr:DS:=(aA (g7 (ak 3 bx (aC (dV 0) (aC (dV 1) (aC (dV 2) aN))))) (ba (ak 3 a9 (aC (dV 0) (aC (dV 1) (aC (dV 2) aN))))))
def bH:List D→M D:=bO 3 (qr)
def Dz:DS:=(aA (g7 (ak 3 bx (aC (dV 0) (aC (dV 1) (aC (dV 2) aN))))) (ba (d2 c7 (ak 3 bU (aC (dV 0) (aC (dV 1) (aC (dV 2) aN)))) (d1 sP (dC (.int 1))))))
def cX:List D→M D:=bO 3 (Dz)
def yh:DS:=(aA (g7 (ak 3 bx (aC (dV 0) (aC (dV 1) (aC (dV 2) aN))))) (ba (ak 3 bU (aC (dV 0) (aC (dV 1) (aC (dV 2) aN))))))
def dP:List D→M D:=bO 3 (yh)
def mP:DS:=(bD 1 (ak 3 eN (aC (dV 0) (aC (dC (.int 0)) (aC (dC (.int 4)) aN)))))
def mQ:DS:=(bD 2 (d2 c7 (dA fW (aC (dC (.int 4)) (aC (dC (.int 8)) aN))) (ak 3 aH (aC (dV 0) (aC (dC (.int 50)) (aC (dC (.int 2)) aN))))))
def mR:DS:=(bD 3 (d2 c6 (dC (.int 1)) (ak 3 aH (aC (dV 0) (aC (dC (.int 51)) (aC (dC (.int 7)) aN))))))
def mS:DS:=(bD 4 (ak 3 cX (aC (dV 1) (aC (dV 2) (aC (dV 3) aN)))))
def mT:DS:=(bD 5 (ak 2 bC (aC (dV 4) (aC (dV 2) aN))))
def mU:DS:=(bD 6 (bw 0 (fun ρ=>(aC (dV 5) aN) ρ>>=iV) b_ (ak 3 lx (aC (dV 5) (aC (dV 3) (aC (dV 0) aN))))))
def mV:DS:=(gc (pY (bS (d2 L5 (dV 5) (dC (.int 1)))) (bS (d2 Js (dA iG (aC (dV 6) aN)) (dV 3)))) (ba (dC (.bl false))) cF)
def mW:DS:=(gc (jP (bS (d2 qJ (ak 3 cX (aC (dV 4) (aC (dV 2) (aC (dV 3) aN)))) (dV 4))) (bS (d2 (zI true) (ak 3 bH (aC (dV 4) (aC (dV 2) (aC (dV 3) aN)))) (dC .non)))) (ba (dC (.bl false))) cF)
def mX:DS:=(bD 7 (ak 3 dP (aC (dV 1) (aC (dV 2) (aC (dV 3) aN)))))
def mY:DS:=(gc (jP (bS (d2 qJ (d2 c7 (dV 7) (dC (.int 0))) (dV 1))) (bS (d2 qJ (d2 c7 (dV 7) (d1 sP (dC (.int 1)))) (dV 4)))) (ba (dC (.bl false))) cF)
def kT:DS:=(fun ρ=>noex ((eD (pb [8,9]) (fun ρ=>(aC (dV 7) (aC (Lf (dV 7) (oS (dC (.int 1))) oN) aN)) ρ>>=Dx) (cI [8,9] (gc (jP (bS (d2 qJ (ak 3 bH (aC (dV 8) (aC (dV 2) (aC (dV 3) aN)))) (dV 9))) (bS (d2 AN (ak 2 bC (aC (dV 9) (aC (dV 2) aN))) (ak 2 bC (aC (dV 8) (aC (dV 2) aN)))))) (ba (dC (.bl false))) cF))) ρ))
def kU:DS:=(bD 10 (bw 2 (dU (ak 1 cb (aC (dV 1) aN))) b_ (dV 0)))
def kW:DS:=(gc (bS (d2 qJ (bw 2 (dU (ak 1 cb (aC (dV 4) aN))) (bS (d2 (zH true) (dV 0) (dV 12))) (dV 0)) (dA fW aN))) (ba (dC (.bl false))) cF)
def kX:DS:=(fun ρ=>noex ((eD (putN 11) (dU (ak 2 er (aC (dV 1) (aC (dV 2) aN)))) (cI [11] (aA (gc (pY (bS (d2 AN (dA bb (aC (dV 11) aN)) (dV 3))) (bS (d2 qJ (d1 fI (bw 0 (dU (dV 11)) b_ (ak 2 bo (aC (dV 5) (aC (dV 0) aN))))) (dC (.int 1))))) (ba (dC (.bl false))) cF) (gc (pY (bS (d2 AN (dA bb (aC (dV 11) aN)) (dV 3))) (bS (d2 qJ (ak 2 bo (aC (dV 4) (aC (d2 c7 (dV 11) (dC (.int 0))) aN))) (ak 2 bo (aC (dV 1) (aC (d2 c7 (dV 11) (dC (.int 0))) aN)))))) (ba (dC (.bl false))) cF)))) ρ))
def kY:DS:=(gc (jP (bS (d2 qJ (ak 3 cX (aC (dV 1) (aC (dV 2) (aC (dC (.int 1)) aN)))) (dV 1))) (bS (d2 qJ (ak 3 dP (aC (dV 1) (aC (dV 2) (aC (dC (.int 1)) aN)))) (dA fW (aC (dV 1) aN))))) (ba (dC (.bl false))) cF)
def kZ:DS:=(ba (d2 nu (ak 2 bC (aC (ak 3 cX (aC (dV 1) (aC (dV 2) (aC (dC (.int 64)) aN)))) (aC (dV 2) aN))) (dC (.int 1))))
def l6:DS:=(aA mP (aA mQ (aA mR (aA mS (aA mT (aA mU (aA mV (aA mW (aA mX (aA mY (aA kT (aA kU (aA kW (aA kX (aA kY kZ)))))))))))))))
def jg:List D→M D:=bO 12 l6
structure Bl (K:W.Frag) (mg:Str→Option Value) (base:Heap) (cv:Nat→Value) (cA:Nat→Addr) (Cp:Addr):Prop where
 len:mg "len"=none
 isinstance:mg "isinstance"=none
 all:mg "all"=none
 abs:mg "abs"=none
 max:mg "max"=none
 min:mg "min"=none
 range:mg "range"=none
 str:mg "str"=none
 int:mg "int"=none
 bool:mg "bool"=none
 tuple:mg "tuple"=none
 set:mg "set"=none
 sorted:mg "sorted"=none
 enumerate:mg "enumerate"=none
 zip:mg "zip"=none
 LETTERS:∃t,mg "LETTERS"=some (.str "abcdef" t)
 MOST_ROWS:∃t,mg "MOST_ROWS"=some (.int 8 t)
 MOST_COLUMNS:∃t,mg "MOST_COLUMNS"=some (.int 8 t)
 GREATEST_LEAST:∃t,mg "GREATEST_LEAST"=some (.int 64 t)
section
variable{P:Program}{w:World}{K:W.Frag}{mg:Str→Option Value}{base:Heap}{cv:Nat→Value}{cA:Nat→Addr}{Cp:Addr}{f:Addr}
abbrev j1:Stmt:=top 10
def oJ:List Str:=["thing"]
def oZ:List Str:=["thing"]
theorem vY:FnScope oJ oZ (af j1):=⟨rfl,rfl,rfl,by decide+kernel,rfl,by decide+kernel,by decide+kernel⟩
theorem vD(B:Bl K mg base cv cA Cp)(T:bf K mg "is_whole" j1 f):ag P w K mg base cv 1 "is_whole" 1 (aW):=
 ay (N:=oJ) (ps:=oZ) T vY (fun _ _ _ _ _ _ us hl=>match us,hl with | [_],_=>rfl) fun bc A outer s H E hr=>
  (ar (az (tu (lM rfl B.isinstance rfl (aa (ab (pv 0)) (aa (rB rfl B.int rfl) ae))) (xJ (HK (lM rfl B.isinstance rfl (aa (ab (pv 0)) (aa (rB rfl B.bool rfl) ae))))))))
abbrev iY:Stmt:=top 11
def ml:List Str:=["thing"]
def mF:List Str:=["thing"]
theorem tX:FnScope ml mF (af iY):=⟨rfl,rfl,rfl,by decide+kernel,rfl,by decide+kernel,by decide+kernel⟩
theorem sX(B:Bl K mg base cv cA Cp)(T:bf K mg "is_letter" iY f):ag P w K mg base cv 1 "is_letter" 1 (cW):=
 ay (N:=ml) (ps:=mF) T tX (fun _ _ _ _ _ _ us hl=>match us,hl with | [_],_=>rfl) fun bc A outer s H E hr=>
  (ar (az (tu (lM rfl B.isinstance rfl (aa (ab (pv 0)) (aa (rB rfl B.str rfl) ae))) (tu (vK hr.units (bG rfl B.len (aa (ab (pv 0)) ae)) av) (xJ (HI (ab (pv 0)) (yX rfl B.LETTERS (by decide))))))))
abbrev d7:Stmt:=top 18
def d3:List Str:=["board","row"]
def iO:List Str:=["board","row"]
theorem ng:FnScope d3 iO (af d7):=⟨rfl,rfl,rfl,by decide+kernel,rfl,by decide+kernel,by decide+kernel⟩
theorem m6(B:Bl K mg base cv cA Cp)(T:bf K mg "cells_of_row" d7 f):ag P w K mg base cv 1 "cells_of_row" 2 (bh):=
 ay (N:=d3) (ps:=iO) T ng (fun _ _ _ _ _ _ us hl=>match us,hl with | [_,_],_=>rfl) fun bc A outer s H E hr=>
  (ar (az (eJ (tn:=["column"]) (n:=0) (bK (N:=d3) (osc:=(af d7)) rfl rfl (by decide+kernel)) rfl rfl (eC rfl B.range (aa (bG rfl B.len (aa (bR (ab (pv 0)) av) ae)) ae)) (fun _ _ _ _ _ _ _=>eh (show List.Nodup (((["column"]:List Str))++de ["column"] d3) by decide+kernel) rfl rfl) (fun _ _ _ _ _ _=>dD) (fun _ _ _ _ _ _=>(g0 (aa (ab (pv 2)) (aa (ab (pv 0)) ae)))))))
abbrev i6:Stmt:=top 20
def mq:List Str:=["board","cell"]
def mJ:List Str:=["board","cell"]
theorem tZ:FnScope mq mJ (af i6):=⟨rfl,rfl,rfl,by decide+kernel,rfl,by decide+kernel,by decide+kernel⟩
theorem s9(B:Bl K mg base cv cA Cp)(T:bf K mg "letter_of" i6 f):ag P w K mg base cv 1 "letter_of" 2 (aO):=
 ay (N:=mq) (ps:=mJ) T tZ (fun _ _ _ _ _ _ us hl=>match us,hl with | [_,_],_=>rfl) fun bc A outer s H E hr=>
  (ar (az (Cs (bR (ab (pv 0)) (bR (ab (pv 1)) av)) (bR (ab (pv 1)) av))))
abbrev jZ:Stmt:=top 21
def oH:List Str:=["one","other","ways","down","along"]
def oW:List Str:=["one","other","ways"]
theorem i9:FnScope oH oW (af jZ):=⟨rfl,rfl,rfl,by decide+kernel,rfl,by decide+kernel,by decide+kernel⟩
theorem vA(B:Bl K mg base cv cA Cp)(T:bf K mg "are_next" jZ f):ag P w K mg base cv 1 "are_next" 3 (dO):=
 ay (N:=oH) (ps:=oW) T i9 (fun _ _ _ _ _ _ us hl=>match us,hl with | [_,_,_],_=>rfl) fun bc A outer s H E hr=>
  (ai (aM i9.nd rfl (by first | exact .inl rfl | exact .inr rfl) (Cm rfl B.abs (aa (o5 (bR (ab (pv 0)) av) (bR (ab (pv 1)) av)) ae) rfl)) (ai (aM i9.nd rfl (by first | exact .inl rfl | exact .inr rfl) (Cm rfl B.abs (aa (o5 (bR (ab (pv 0)) av) (bR (ab (pv 1)) av)) ae) rfl)) (ai (bB (y0 hr.units (ab (pv 2)) av) (ar (az (vK hr.units (cO (ab (pv 3)) (ab (pv 4))) av))) aZ) (ar (az (vK hr.units (xI rfl rfl B.max rfl (aa (ab (pv 3)) (aa (ab (pv 4)) ae))) av))))))
abbrev tW:Stmt:=top 23
def yP:List Str:=["things","found","thing"]
def yU:List Str:=["things"]
theorem pk:FnScope yP yU (af tW):=⟨rfl,rfl,rfl,by decide+kernel,rfl,by decide+kernel,by decide+kernel⟩
theorem Cd(B:Bl K mg base cv cA Cp)(T:bf K mg "keyed" tW f):ag P w K mg base cv 1 "keyed" 1 (fS):=
 ay (N:=yP) (ps:=yU) T pk (fun _ _ _ _ _ _ us hl=>match us,hl with | [_],_=>rfl) fun bc A outer s H E hr=>
  (ai (kH pk.nd rfl (by first | exact .inl rfl | exact .inr rfl)) (ai (da (b9 PassesOwn.never rfl (EY (bV (ab (pv 0))) (Cy (ab (pv 0)))) (a7 pk.nd rfl (by first | exact .inl rfl | exact .inr rfl)) cj (bA (ar (kI hr.units (pv 1) (ab (pv 2)) gb))))) (ar (d6 (i:=1) (az (ab (pv 1)))))))
abbrev hJ:Stmt:=top 31
def kr:List Str:=["found","numbers","number","patch","cell"]
def kE:List Str:=["found"]
theorem dB:FnScope kr kE (af hJ):=⟨rfl,rfl,rfl,by decide+kernel,rfl,by decide+kernel,by decide+kernel⟩
theorem qe(B:Bl K mg base cv cA Cp)(T:bf K mg "numbers_of" hJ f):ag P w K mg base cv 1 "numbers_of" 1 (e8):=
 ay (N:=kr) (ps:=kE) T dB (fun _ _ _ _ _ _ us hl=>match us,hl with | [_],_=>rfl) fun bc A outer s H E hr=>
  (ai (kH dB.nd rfl (by first | exact .inl rfl | exact .inr rfl)) (ai (da (b9 PassesOwn.never rfl (Cw rfl B.enumerate (aa (ab (pv 0)) ae)) (tK rfl (eT (a7 dB.nd rfl (by first | exact .inl rfl | exact .inr rfl)) (eT (a7 dB.nd rfl (by first | exact .inl rfl | exact .inr rfl)) nz))) (tO (is:=[2,3])) (bA (ar (b9 PassesOwn.never rfl (bV (ab (pv 3))) (a7 dB.nd rfl (by first | exact .inl rfl | exact .inr rfl)) cj (bA (ar (kI hr.units (pv 1) (ab (pv 4)) (ab (pv 2)))))))))) (ar (d6 (i:=1) (az (ab (pv 1)))))))
abbrev j2:Stmt:=top 49
def oK:List Str:=["_law_script","_law_k"]
def o3:List Str:=["_law_script","_law_k"]
theorem vZ:FnScope oK o3 (af j2):=⟨rfl,rfl,rfl,by decide+kernel,rfl,by decide+kernel,by decide+kernel⟩
theorem vE(B:Bl K mg base cv cA Cp)(T:bf K mg "_law_cell" j2 f):ag P w K mg base cv 1 "_law_cell" 2 (fC):=
 ay (N:=oK) (ps:=o3) T vZ (fun _ _ _ _ _ _ us hl=>match us,hl with | [_,_],_=>rfl) fun bc A outer s H E hr=>
  (ai (bB (y0 hr.units (ab (pv 0)) (lN ae)) (ar (az (jX av (ab (pv 1))))) aZ) (ar (az (cO (HJ (ab (pv 0)) (lO (ab (pv 1)) (bG rfl B.len (aa (ab (pv 0)) ae)))) (jX av (tw (ab (pv 1)) (bG rfl B.len (aa (ab (pv 0)) ae))))))))
abbrev kL:Stmt:=top 12
def kj:List Str:=["thing"]
def vH:List Str:=["thing"]
theorem Av:FnScope kj vH (af kL):=⟨rfl,rfl,rfl,by decide+kernel,rfl,by decide+kernel,by decide+kernel⟩
theorem Ad(B:Bl K mg base cv cA Cp)(uC:ag P w K mg base cv 1 "is_letter" 1 cW)(T:bf K mg "is_row" kL f):ag P w K mg base cv 2 "is_row" 1 (fB):=
 ay (N:=kj) (ps:=vH) T Av (fun _ _ _ _ _ _ us hl=>match us,hl with | [_],_=>rfl) fun bc A outer s H E hr=>
  (ai (bB (PDW.t (eZ (cC (c_ (lM rfl B.isinstance rfl (aa (ab (pv 0)) (aa (rB rfl B.str rfl) ae))))) (dG (cC (tM kz kz av (bG rfl B.len (aa (ab (pv 0)) ae)) (tB rfl B.MOST_COLUMNS)))))) (ar (az gb)) aZ) (ar (az (xG rfl rfl B.all rfl (aa (eJ (tn:=["sign"]) (n:=0) (bK (N:=kj) (osc:=(af kL)) rfl rfl (by decide+kernel)) rfl rfl (yY (ab (pv 0))) (fun _ _ _ _ _ _ _=>eh (show List.Nodup (((["sign"]:List Str))++de ["sign"] kj) by decide+kernel) rfl rfl) (fun _ _ _ _ _ _=>dD) (fun _ _ _ _ _ _=>(aP uC (hr.mono (by decide)) rfl cS (aa (ab (pv 0)) ae) rfl))) ae)))))
abbrev lW:Stmt:=top 14
def q_:List Str:=["board","thing"]
def rn:List Str:=["board","thing"]
theorem xP:FnScope q_ rn (af lW):=⟨rfl,rfl,rfl,by decide+kernel,rfl,by decide+kernel,by decide+kernel⟩
theorem xx(B:Bl K mg base cv cA Cp)(cT:ag P w K mg base cv 1 "is_whole" 1 aW)(T:bf K mg "is_cell" lW f):ag P w K mg base cv 2 "is_cell" 2 (jf):=
 ay (N:=q_) (ps:=rn) T xP (fun _ _ _ _ _ _ us hl=>match us,hl with | [_,_],_=>rfl) fun bc A outer s H E hr=>
  (ai (bB (PDW.t (eZ (cC (c_ (lM rfl B.isinstance rfl (aa (ab (pv 1)) (aa (rB rfl B.tuple rfl) ae))))) (dG (jI hr.units (bG rfl B.len (aa (ab (pv 1)) ae)) av)))) (ar (az gb)) aZ) (ai (bB (PDW.t (eZ (cC (c_ (aP cT (hr.mono (by decide)) rfl aL (aa (bR (ab (pv 1)) av) ae) rfl))) (dG (cC (c_ (aP cT (hr.mono (by decide)) rfl aL (aa (bR (ab (pv 1)) av) ae) rfl)))))) (ar (az gb)) aZ) (ar (az (tu (Cq kz yS av (bR (ab (pv 1)) av) (bG rfl B.len (aa (ab (pv 0)) ae))) (xJ (Cq kz yS av (bR (ab (pv 1)) av) (bG rfl B.len (aa (bR (ab (pv 0)) av) ae)))))))))
abbrev i8:Stmt:=top 17
def mv:List Str:=["thing"]
def mL:List Str:=["thing"]
theorem t6:FnScope mv mL (af i8):=⟨rfl,rfl,rfl,by decide+kernel,rfl,by decide+kernel,by decide+kernel⟩
theorem tf(B:Bl K mg base cv cA Cp)(cT:ag P w K mg base cv 1 "is_whole" 1 aW)(T:bf K mg "need_ways" i8 f):ag P w K mg base cv 2 "need_ways" 1 (bI):=
 ay (N:=mv) (ps:=mL) T t6 (fun _ _ _ _ _ _ us hl=>match us,hl with | [_],_=>rfl) fun bc A outer s H E hr=>
  (ar (bB (PDW.t (eZ (cC (c_ (aP cT (hr.mono (by decide)) rfl aL (aa (ab (pv 0)) ae) rfl))) (dG (Ar (ab (pv 0)) (g0 (aa av (aa av ae))))))) (ar gE) aZ))
abbrev iW:Stmt:=top 19
def mi:List Str:=["board","found","row"]
def mD:List Str:=["board"]
theorem hZ:FnScope mi mD (af iW):=⟨rfl,rfl,rfl,by decide+kernel,rfl,by decide+kernel,by decide+kernel⟩
theorem sV(B:Bl K mg base cv cA Cp)(ft:ag P w K mg base cv 1 "cells_of_row" 2 bh)(T:bf K mg "all_cells" iW f):ag P w K mg base cv 2 "all_cells" 1 (cq):=
 ay (N:=mi) (ps:=mD) T hZ (fun _ _ _ _ _ _ us hl=>match us,hl with | [_],_=>rfl) fun bc A outer s H E hr=>
  (ai (g6 hZ.nd rfl (by first | exact .inl rfl | exact .inr rfl)) (ai (da (b9 PassesOwn.never rfl (eC rfl B.range (aa (bG rfl B.len (aa (ab (pv 0)) ae)) ae)) (a7 hZ.nd rfl (by first | exact .inl rfl | exact .inr rfl)) cj (bA (ar (Fc (pv 1) (aP ft (hr.mono (by decide)) rfl cS (aa (ab (pv 0)) (aa (ab (pv 2)) ae)) rfl)))))) (ar (d6 (i:=1) (az (ab (pv 1)))))))
abbrev g_:Stmt:=top 22
def kq:List Str:=["board","cell","ways","found","row","column"]
def kD:List Str:=["board","cell","ways"]
theorem eK:FnScope kq kD (af g_):=⟨rfl,rfl,rfl,by decide+kernel,rfl,by decide+kernel,by decide+kernel⟩
theorem qd(B:Bl K mg base cv cA Cp)(wK:ag P w K mg base cv 1 "are_next" 3 dO)(T:bf K mg "next_cells" g_ f):ag P w K mg base cv 2 "next_cells" 3 (bj):=
 ay (N:=kq) (ps:=kD) T eK (fun _ _ _ _ _ _ us hl=>match us,hl with | [_,_,_],_=>rfl) fun bc A outer s H E hr=>
  (ai (g6 eK.nd rfl (by first | exact .inl rfl | exact .inr rfl)) (ai (da (b9 PassesOwn.never rfl (o6 rfl B.range (aa (xI rfl rfl B.max rfl (aa (o5 (bR (ab (pv 1)) av) av) (aa av ae))) (aa (Ct rfl rfl B.min rfl (aa (cO (bR (ab (pv 1)) av) av) (aa (bG rfl B.len (aa (ab (pv 0)) ae)) ae))) ae))) (a7 eK.nd rfl (by first | exact .inl rfl | exact .inr rfl)) cj (bA (ar (b9 PassesOwn.never rfl (o6 rfl B.range (aa (xI rfl rfl B.max rfl (aa (o5 (bR (ab (pv 1)) av) av) (aa av ae))) (aa (Ct rfl rfl B.min rfl (aa (cO (bR (ab (pv 1)) av) av) (aa (bG rfl B.len (aa (bR (ab (pv 0)) av) ae)) ae))) ae))) (a7 eK.nd rfl (by first | exact .inl rfl | exact .inr rfl)) cj (bA (ar (bB (c_ (aP wK (hr.mono (by decide)) rfl cS (aa (ab (pv 1)) (aa (g0 (aa (ab (pv 4)) (aa (ab (pv 5)) ae))) (aa (ab (pv 2)) ae))) rfl)) (ar (jr (pv 3) (g0 (aa (ab (pv 4)) (aa (ab (pv 5)) ae))))) aZ)))))))) (ar (d6 (i:=3) (az (ab (pv 3)))))))
abbrev d9:Stmt:=top 24
def d4:List Str:=["board","some","letter","marked","told","row","places"]
def iR:List Str:=["board","some","letter"]
theorem cJ:FnScope d4 iR (af d9):=⟨rfl,rfl,rfl,by decide+kernel,rfl,by decide+kernel,by decide+kernel⟩
theorem m9(B:Bl K mg base cv cA Cp)(r6:ag P w K mg base cv 1 "keyed" 1 fS)(ft:ag P w K mg base cv 1 "cells_of_row" 2 bh)(ck:ag P w K mg base cv 1 "letter_of" 2 aO)(T:bf K mg "with_letters" d9 f):ag P w K mg base cv 2 "with_letters" 3 (cg):=
 ay (N:=d4) (ps:=iR) T cJ (fun _ _ _ _ _ _ us hl=>match us,hl with | [_,_,_],_=>rfl) fun bc A outer s H E hr=>
  (ai (aM cJ.nd rfl (by first | exact .inl rfl | exact .inr rfl) (aP r6 (hr.mono (by decide)) rfl aL (aa (ab (pv 1)) ae) rfl)) (ai (g6 cJ.nd rfl (by first | exact .inl rfl | exact .inr rfl)) (ai (da (b9 PassesOwn.never rfl (eC rfl B.range (aa (bG rfl B.len (aa (ab (pv 0)) ae)) ae)) (a7 cJ.nd rfl (by first | exact .inl rfl | exact .inr rfl)) cj (bA (ai (aM cJ.nd rfl (by first | exact .inl rfl | exact .inr rfl) (aP ft (hr.mono (by decide)) rfl cS (aa (ab (pv 0)) (aa (ab (pv 5)) ae)) rfl)) (ar (jr (pv 4) (tF jY (aa (eJ (tn:=["cell"]) (n:=0) (bK (N:=d4) (osc:=(af d9)) rfl rfl (by decide+kernel)) rfl rfl (bV (ab (pv 6))) (fun _ _ _ _ _ _ _=>eh (show List.Nodup (((["cell"]:List Str))++de ["cell"] d4) by decide+kernel) rfl rfl) (fun _ _ _ _ _ _=>dD) (fun _ _ _ _ _ _=>(Kq (H9 hr.units (ab (pv 0)) (ab (pv 4))) (ab (pv 3)) (aP ck (hr.mono (by decide)) rfl cS (aa (ab (pv 1)) (aa (ab (pv 0)) ae)) rfl)))) ae)))))))) (ar (d6 (i:=4) (az (Cv rfl B.tuple rfl (aa (ab (pv 4)) ae))))))))
abbrev gp:Stmt:=top 35
def jE:List Str:=["many","thing"]
def jH:List Str:=["many","thing"]
theorem pz:FnScope jE jH (af gp):=⟨rfl,rfl,rfl,by decide+kernel,rfl,by decide+kernel,by decide+kernel⟩
theorem oV(B:Bl K mg base cv cA Cp)(cT:ag P w K mg base cv 1 "is_whole" 1 aW)(T:bf K mg "need_number" gp f):ag P w K mg base cv 2 "need_number" 2 (eG):=
 ay (N:=jE) (ps:=jH) T pz (fun _ _ _ _ _ _ us hl=>match us,hl with | [_,_],_=>rfl) fun bc A outer s H E hr=>
  (ar (bB (PDW.t (eZ (cC (c_ (aP cT (hr.mono (by decide)) rfl aL (aa (ab (pv 1)) ae) rfl))) (dG (cC (tM kz yS av (ab (pv 1)) (ab (pv 0))))))) (ar gE) aZ))
abbrev iZ:Stmt:=top 50
def mm:List Str:=["_law_script","_law_k","_law_many","_law_cell_here"]
def mH:List Str:=["_law_script","_law_k","_law_many"]
theorem h7:FnScope mm mH (af iZ):=⟨rfl,rfl,rfl,by decide+kernel,rfl,by decide+kernel,by decide+kernel⟩
theorem sZ(B:Bl K mg base cv cA Cp)(wM:ag P w K mg base cv 1 "_law_cell" 2 fC)(T:bf K mg "_law_drawn" iZ f):ag P w K mg base cv 2 "_law_drawn" 3 (aH):=
 ay (N:=mm) (ps:=mH) T h7 (fun _ _ _ _ _ _ us hl=>match us,hl with | [_,_,_],_=>rfl) fun bc A outer s H E hr=>
  (ai (aM h7.nd rfl (by first | exact .inl rfl | exact .inr rfl) (lO (cO (jX (lO (aP wM (hr.mono (by decide)) rfl aL (aa (ab (pv 0)) (aa (ab (pv 1)) ae)) rfl) av) av) (jX av (cO (ab (pv 1)) av))) av)) (ai (aM h7.nd rfl (by first | exact .inl rfl | exact .inr rfl) (lO (cO (jX (ab (pv 3)) (ab (pv 3))) (tw (ab (pv 3)) av)) av)) (ar (az (lO (tw (lO (cO (jX (ab (pv 3)) (ab (pv 3))) (tw (ab (pv 3)) av)) av) av) (ab (pv 2)))))))
abbrev fN:Stmt:=top 13
def eA:List Str:=["thing"]
def oY:List Str:=["thing"]
theorem vX:FnScope eA oY (af fN):=⟨rfl,rfl,rfl,by decide+kernel,rfl,by decide+kernel,by decide+kernel⟩
theorem vC(B:Bl K mg base cv cA Cp)(AY:ag P w K mg base cv 2 "is_row" 1 fB)(T:bf K mg "is_board" fN f):ag P w K mg base cv 3 "is_board" 1 (gO):=
 ay (N:=eA) (ps:=oY) T vX (fun _ _ _ _ _ _ us hl=>match us,hl with | [_],_=>rfl) fun bc A outer s H E hr=>
  (ai (bB (PDW.t (eZ (cC (c_ (lM rfl B.isinstance rfl (aa (ab (pv 0)) (aa (rB rfl B.tuple rfl) ae))))) (dG (cC (tM kz kz av (bG rfl B.len (aa (ab (pv 0)) ae)) (tB rfl B.MOST_ROWS)))))) (ar (az gb)) aZ) (ai (bB (cC (c_ (xG rfl rfl B.all rfl (aa (eJ (tn:=["row"]) (n:=0) (bK (N:=eA) (osc:=(af fN)) rfl rfl (by decide+kernel)) rfl rfl (yZ (ab (pv 0))) (fun _ _ _ _ _ _ _=>eh (show List.Nodup (((["row"]:List Str))++de ["row"] eA) by decide+kernel) rfl rfl) (fun _ _ _ _ _ _=>dD) (fun _ _ _ _ _ _=>(aP AY (hr.mono (by decide)) rfl cS (aa (ab (pv 0)) ae) rfl))) ae)))) (ar (az gb)) aZ) (ar (az (xG rfl rfl B.all rfl (aa (eJ (tn:=["row"]) (n:=0) (bK (N:=eA) (osc:=(af fN)) rfl rfl (by decide+kernel)) rfl rfl (yZ (ab (pv 0))) (fun _ _ _ _ _ _ _=>eh (show List.Nodup (((["row"]:List Str))++de ["row"] eA) by decide+kernel) rfl rfl) (fun _ _ _ _ _ _=>dD) (fun _ _ _ _ _ _=>(vK hr.units (bG rfl B.len (aa (ab (pv 0)) ae)) (bG rfl B.len (aa (bR (ab (pv 1)) av) ae))))) ae))))))
abbrev i7:Stmt:=top 16
def mr:List Str:=["board","thing"]
def mK:List Str:=["board","thing"]
theorem t5:FnScope mr mK (af i7):=⟨rfl,rfl,rfl,by decide+kernel,rfl,by decide+kernel,by decide+kernel⟩
theorem s_(B:Bl K mg base cv cA Cp)(zr:ag P w K mg base cv 2 "is_cell" 2 jf)(T:bf K mg "need_cell" i7 f):ag P w K mg base cv 3 "need_cell" 2 (fT):=
 ay (N:=mr) (ps:=mK) T t5 (fun _ _ _ _ _ _ us hl=>match us,hl with | [_,_],_=>rfl) fun bc A outer s H E hr=>
  (ar (bB (cC (c_ (aP zr (hr.mono (by decide)) rfl aL (aa (ab (pv 0)) (aa (ab (pv 1)) ae)) rfl))) (ar gE) aZ))
abbrev fc:Stmt:=top 28
def e_:List Str:=["board","cell","ways","letter"]
def kA:List Str:=["board","cell","ways"]
theorem jJ:FnScope e_ kA (af fc):=⟨rfl,rfl,rfl,by decide+kernel,rfl,by decide+kernel,by decide+kernel⟩
theorem qa(B:Bl K mg base cv cA Cp)(ck:ag P w K mg base cv 1 "letter_of" 2 aO)(gN:ag P w K mg base cv 2 "next_cells" 3 bj)(T:bf K mg "like_cells" fc f):ag P w K mg base cv 3 "like_cells" 3 (cy):=
 ay (N:=e_) (ps:=kA) T jJ (fun _ _ _ _ _ _ us hl=>match us,hl with | [_,_,_],_=>rfl) fun bc A outer s H E hr=>
  (ai (aM jJ.nd rfl (by first | exact .inl rfl | exact .inr rfl) (aP ck (hr.mono (by decide)) rfl aL (aa (ab (pv 0)) (aa (ab (pv 1)) ae)) rfl)) (ar (az (eJ (tn:=["near"]) (n:=0) (bK (N:=e_) (osc:=(af fc)) rfl rfl (by decide+kernel)) rfl rfl (bV (aP gN (hr.mono (by decide)) rfl aL (aa (ab (pv 0)) (aa (ab (pv 1)) (aa (ab (pv 2)) ae))) rfl)) (fun _ _ _ _ _ _ _=>eh (show List.Nodup (((["near"]:List Str))++de ["near"] e_) by decide+kernel) rfl rfl) (fun _ _ _ _ _ _=>(pI (y0 hr.units (aP ck (hr.mono (by decide)) rfl cS (aa (ab (pv 1)) (aa (ab (pv 0)) ae)) rfl) (ab (pv 4))))) (fun _ _ _ _ _ _=>(ab (pv 0)))))))
abbrev fP:Stmt:=top 37
def iI:List Str:=["board","found","numbers","shared","cell","near","pair"]
def iQ:List Str:=["board","found"]
theorem bT:FnScope iI iQ (af fP):=⟨rfl,rfl,rfl,by decide+kernel,rfl,by decide+kernel,by decide+kernel⟩
theorem m8(B:Bl K mg base cv cA Cp)(sd:ag P w K mg base cv 1 "numbers_of" 1 e8)(iq:ag P w K mg base cv 2 "all_cells" 1 cq)(gN:ag P w K mg base cv 2 "next_cells" 3 bj)(T:bf K mg "shared_sides" fP f):ag P w K mg base cv 3 "shared_sides" 2 (cf):=
 ay (N:=iI) (ps:=iQ) T bT (fun _ _ _ _ _ _ us hl=>match us,hl with | [_,_],_=>rfl) fun bc A outer s H E hr=>
  (ai (aM bT.nd rfl (by first | exact .inl rfl | exact .inr rfl) (aP sd (hr.mono (by decide)) rfl aL (aa (ab (pv 1)) ae) rfl)) (ai (kH bT.nd rfl (by first | exact .inl rfl | exact .inr rfl)) (ai (da (b9 PassesOwn.never rfl (bV (aP iq (hr.mono (by decide)) rfl cS (aa (ab (pv 0)) ae) rfl)) (a7 bT.nd rfl (by first | exact .inl rfl | exact .inr rfl)) cj (bA (ar (b9 PassesOwn.never rfl (bV (aP gN (hr.mono (by decide)) rfl cS (aa (ab (pv 0)) (aa (ab (pv 4)) (aa av ae))) rfl)) (a7 bT.nd rfl (by first | exact .inl rfl | exact .inr rfl)) cj (bA (ar (bB (Gs (tE hr.units (ab (pv 2)) (ab (pv 4))) (tE hr.units (ab (pv 2)) (ab (pv 5)))) (ai (aM bT.nd rfl (by first | exact .inl rfl | exact .inr rfl) (g0 (aa (tE hr.units (ab (pv 2)) (ab (pv 4))) (aa (tE hr.units (ab (pv 2)) (ab (pv 5))) ae)))) (ar (kI hr.units (pv 3) (ab (pv 6)) (Ks (cO (EU hr.units (ab (pv 3)) (ab (pv 6)) av ⟨rfl,rfl,rfl,rfl⟩) av))))) aZ)))))))) (ar (d6 (i:=3) (az (ab (pv 3))))))))
abbrev gg:Stmt:=top 51
def fY:List Str:=["_law_script","_law_at","_law_most","_law_rows","_law_wide","_law_alphabet","_law_found","_law_row","_law_signs"]
def mG:List Str:=["_law_script","_law_at","_law_most"]
theorem bW:FnScope fY mG (af gg):=⟨rfl,rfl,rfl,by decide+kernel,rfl,by decide+kernel,by decide+kernel⟩
set_option maxHeartbeats 4000000 in
theorem sY(B:Bl K mg base cv cA Cp)(bu:ag P w K mg base cv 2 "_law_drawn" 3 aH)(T:bf K mg "_law_board" gg f):ag P w K mg base cv 3 "_law_board" 3 (eN):=
 ay (N:=fY) (ps:=mG) T bW (fun _ _ _ _ _ _ us hl=>match us,hl with | [_,_,_],_=>rfl) fun bc A outer s H E hr=>
  (ai (aM bW.nd rfl (by first | exact .inl rfl | exact .inr rfl) (cO av (aP bu (hr.mono (by decide)) rfl aL (aa (ab (pv 0)) (aa (ab (pv 1)) (aa (ab (pv 2)) ae))) rfl))) (ai (aM bW.nd rfl (by first | exact .inl rfl | exact .inr rfl) (cO av (aP bu (hr.mono (by decide)) rfl aL (aa (ab (pv 0)) (aa (cO (ab (pv 1)) av) (aa (ab (pv 2)) ae))) rfl))) (ai (aM bW.nd rfl (by first | exact .inl rfl | exact .inr rfl) (eY (lN (aa jY (aa jY (aa jY (aa jY ae))))) (aP bu (hr.mono (by decide)) rfl aL (aa (ab (pv 0)) (aa (cO (ab (pv 1)) av) (aa av ae))) rfl))) (ai (aM bW.nd rfl (by first | exact .inl rfl | exact .inr rfl) (g0 ae)) (ai (da (b9 PassesOwn.never rfl (eC rfl B.range (aa (ab (pv 3)) ae)) (a7 bW.nd rfl (by first | exact .inl rfl | exact .inr rfl)) cj (bA (ai (iS (tn:=["_law_k"]) (n:=0) bW.nd rfl (by first | exact .inl rfl | exact .inr rfl) (bK (N:=fY) (osc:=(af gg)) rfl rfl (by decide+kernel)) rfl rfl (eC rfl B.range (aa (ab (pv 4)) ae)) (fun _ _ _ _ _ _ _=>eh (show List.Nodup (((["_law_k"]:List Str))++de ["_law_k"] fY) by decide+kernel) rfl rfl) (fun _ _ _ _ _ _=>dD) (fun _ _ _ _ _ _=>(Cs (ab (pv 6)) (aP bu (hr.mono (by decide)) rfl cS (aa (ab (pv 1)) (aa (cO (cO (cO (ab (pv 2)) av) (jX av (ab (pv 8)))) (ab (pv 0))) (aa (bG rfl B.len (aa (ab (pv 6)) ae)) ae))) rfl)))) (ar (aM bW.nd rfl (by first | exact .inl rfl | exact .inr rfl) (ES (ab (pv 6)) (g0 (aa (tF jY (aa (ab (pv 8)) ae)) ae))))))))) (ar (az (ab (pv 6)))))))))
abbrev g9:Stmt:=top 15
def km:List Str:=["thing"]
def kC:List Str:=["thing"]
theorem qh:FnScope km kC (af g9):=⟨rfl,rfl,rfl,by decide+kernel,rfl,by decide+kernel,by decide+kernel⟩
theorem qc(B:Bl K mg base cv cA Cp)(wL:ag P w K mg base cv 3 "is_board" 1 gO)(T:bf K mg "need_board" g9 f):ag P w K mg base cv 4 "need_board" 1 (aV):=
 ay (N:=km) (ps:=kC) T qh (fun _ _ _ _ _ _ us hl=>match us,hl with | [_],_=>rfl) fun bc A outer s H E hr=>
  (ar (bB (cC (c_ (aP wL (hr.mono (by decide)) rfl aL (aa (ab (pv 0)) ae) rfl))) (ar gE) aZ))
abbrev hX:Stmt:=top 29
def ku:List Str:=["board","start","ways","back","ring","further","cell","near"]
def kF:List Str:=["board","start","ways"]
theorem b7:FnScope ku kF (af hX):=⟨rfl,rfl,rfl,by decide+kernel,rfl,by decide+kernel,by decide+kernel⟩
theorem qf(B:Bl K mg base cv cA Cp)(r9:ag P w K mg base cv 3 "like_cells" 3 cy)(T:bf K mg "steps_back" hX f):ag P w K mg base cv 4 "steps_back" 3 (cz):=
 ay (N:=ku) (ps:=kF) T b7 (fun _ _ _ _ _ _ us hl=>match us,hl with | [_,_,_],_=>rfl) fun bc A outer s H E hr=>
  (ai (CO b7.nd rfl (by first | exact .inl rfl | exact .inr rfl) (Al hr.units (ab (pv 1)) tI)) (ai (aM b7.nd rfl (by first | exact .inl rfl | exact .inr rfl) (lN (aa (ab (pv 1)) ae))) (ai (da (rC PassesOwn.never (c_ (ab (pv 4))) (bA (ai (g6 b7.nd rfl (by first | exact .inl rfl | exact .inr rfl)) (ai (b9 PassesOwn.never rfl (bV (ab (pv 4))) (a7 b7.nd rfl (by first | exact .inl rfl | exact .inr rfl)) cj (bA (ar (b9 PassesOwn.never rfl (bV (aP r9 (hr.mono (by decide)) rfl cS (aa (ab (pv 0)) (aa (ab (pv 6)) (aa (ab (pv 2)) ae))) rfl)) (a7 b7.nd rfl (by first | exact .inl rfl | exact .inr rfl)) cj (bA (ar (bB (CB (rD hr.units (ab (pv 7)) (ab (pv 3)))) (ai (kI hr.units (pv 3) (ab (pv 7)) (ab (pv 6))) (ar (jr (pv 5) (ab (pv 7))))) aZ))))))) (ar (d6 (i:=5) (aM b7.nd rfl (by first | exact .inl rfl | exact .inr rfl) (ab (pv 5)))))))))) (ar (d6 (i:=3) (az (ab (pv 3))))))))
abbrev g8:Stmt:=top 42
def kl:List Str:=["board","found","number","choices","pair","sides","other"]
def kB:List Str:=["board","found","number"]
theorem dz:FnScope kl kB (af g8):=⟨rfl,rfl,rfl,by decide+kernel,rfl,by decide+kernel,by decide+kernel⟩
theorem qb(B:Bl K mg base cv cA Cp)(nN:ag P w K mg base cv 3 "shared_sides" 2 cf)(T:bf K mg "melts_into" g8 f):ag P w K mg base cv 4 "melts_into" 3 (dY):=
 ay (N:=kl) (ps:=kB) T dz (fun _ _ _ _ _ _ us hl=>match us,hl with | [_,_,_],_=>rfl) fun bc A outer s H E hr=>
  (ai (g6 dz.nd rfl (by first | exact .inl rfl | exact .inr rfl)) (ai (da (b9 PassesOwn.never rfl (Am (aP nN (hr.mono (by decide)) rfl cS (aa (ab (pv 0)) (aa (ab (pv 1)) ae)) rfl)) (tK rfl (eT (a7 dz.nd rfl (by first | exact .inl rfl | exact .inr rfl)) (eT (a7 dz.nd rfl (by first | exact .inl rfl | exact .inr rfl)) nz))) (tO (is:=[4,5])) (bA (ar (bB (H_ (ab (pv 2)) (ab (pv 4))) (ai (aM dz.nd rfl (by first | exact .inl rfl | exact .inr rfl) (o5 (cO (bR (ab (pv 4)) av) (bR (ab (pv 4)) av)) (ab (pv 2)))) (ar (jr (pv 3) (g0 (aa (tH (ab (pv 5))) (aa (tH (bG rfl B.len (aa (eY (ab (pv 1)) (ab (pv 6))) ae))) (aa (ab (pv 6)) ae))))))) aZ))))) (ar (d6 (i:=3) (az (bR (Cu hr.units rfl rfl B.min rfl (aa (ab (pv 3)) ae)) av))))))
abbrev i3:Stmt:=top 25
def mn:List Str:=["board","cell"]
def mI:List Str:=["board","cell"]
theorem tY:FnScope mn mI (af i3):=⟨rfl,rfl,rfl,by decide+kernel,rfl,by decide+kernel,by decide+kernel⟩
theorem s8(B:Bl K mg base cv cA Cp)(bg:ag P w K mg base cv 4 "need_board" 1 aV)(uD:ag P w K mg base cv 3 "need_cell" 2 fT)(ck:ag P w K mg base cv 1 "letter_of" 2 aO)(T:bf K mg "letter_at" i3 f):ag P w K mg base cv 5 "letter_at" 2 (bo):=
 ay (N:=mn) (ps:=mI) T tY (fun _ _ _ _ _ _ us hl=>match us,hl with | [_,_],_=>rfl) fun bc A outer s H E hr=>
  (ai (cE (aP bg (hr.mono (by decide)) rfl aL (aa (ab (pv 0)) ae) rfl)) (ai (cE (aP uD (hr.mono (by decide)) rfl aL (aa (ab (pv 0)) (aa (ab (pv 1)) ae)) rfl)) (ar (az (aP ck (hr.mono (by decide)) rfl aL (aa (ab (pv 0)) (aa (ab (pv 1)) ae)) rfl)))))
abbrev js:Stmt:=top 26
def jq:List Str:=["board","signs"]
def ro:List Str:=["board"]
theorem pq:FnScope jq ro (af js):=⟨rfl,rfl,rfl,by decide+kernel,rfl,by decide+kernel,by decide+kernel⟩
theorem xy(B:Bl K mg base cv cA Cp)(bg:ag P w K mg base cv 4 "need_board" 1 aV)(T:bf K mg "letters" js f):ag P w K mg base cv 5 "letters" 1 (cb):=
 ay (N:=jq) (ps:=ro) T pq (fun _ _ _ _ _ _ us hl=>match us,hl with | [_],_=>rfl) fun bc A outer s H E hr=>
  (ai (cE (aP bg (hr.mono (by decide)) rfl aL (aa (ab (pv 0)) ae) rfl)) (ai (aM pq.nd rfl (by first | exact .inl rfl | exact .inr rfl) (tF jY (aa (ab (pv 0)) ae))) (ar (az (eJ (tn:=["letter"]) (n:=0) (bK (N:=jq) (osc:=(af js)) rfl rfl (by decide+kernel)) rfl rfl (yY (yX rfl B.LETTERS (by decide))) (fun _ _ _ _ _ _ _=>eh (show List.Nodup (((["letter"]:List Str))++de ["letter"] jq) by decide+kernel) rfl rfl) (fun _ _ _ _ _ _=>(pI (Ia (ab (pv 0)) (ab (pv 2))))) (fun _ _ _ _ _ _=>(g0 (aa (ab (pv 0)) (aa (ET (ab (pv 2)) (aa (ab (pv 0)) ae)) ae)))))))))
abbrev gm:Stmt:=top 30
def jC:List Str:=["board","ways","found","seen","cell","patch"]
def jF:List Str:=["board","ways"]
theorem cZ:FnScope jC jF (af gm):=⟨rfl,rfl,rfl,by decide+kernel,rfl,by decide+kernel,by decide+kernel⟩
theorem oT(B:Bl K mg base cv cA Cp)(iq:ag P w K mg base cv 2 "all_cells" 1 cq)(se:ag P w K mg base cv 4 "steps_back" 3 cz)(r6:ag P w K mg base cv 1 "keyed" 1 fS)(T:bf K mg "all_patches" gm f):ag P w K mg base cv 5 "all_patches" 2 (a6):=
 ay (N:=jC) (ps:=jF) T cZ (fun _ _ _ _ _ _ us hl=>match us,hl with | [_,_],_=>rfl) fun bc A outer s H E hr=>
  (ai (g6 cZ.nd rfl (by first | exact .inl rfl | exact .inr rfl)) (ai (kH cZ.nd rfl (by first | exact .inl rfl | exact .inr rfl)) (ai (da (b9 PassesOwn.never rfl (bV (aP iq (hr.mono (by decide)) rfl cS (aa (ab (pv 0)) ae) rfl)) (a7 cZ.nd rfl (by first | exact .inl rfl | exact .inr rfl)) cj (bA (ar (bB (CB (rD hr.units (ab (pv 4)) (ab (pv 3)))) (ai (aM cZ.nd rfl (by first | exact .inl rfl | exact .inr rfl) (EW rfl rfl B.sorted rfl (aa (aP se (hr.mono (by decide)) rfl cS (aa (ab (pv 0)) (aa (ab (pv 4)) (aa (ab (pv 1)) ae))) rfl) ae))) (ai (jr (pv 2) (ab (pv 5))) (ar (Fd hr.units (pv 3) (aP r6 (hr.mono (by decide)) rfl cS (aa (ab (pv 5)) ae) rfl) ⟨rfl,rfl,rfl,rfl⟩)))) aZ))))) (ar (d6 (i:=2) (az (ab (pv 2))))))))
abbrev fO:Stmt:=top 41
def iH:List Str:=["board","ways","least"]
def iP:List Str:=["board","ways","least"]
theorem nh:FnScope iH iP (af fO):=⟨rfl,rfl,rfl,by decide+kernel,rfl,by decide+kernel,by decide+kernel⟩
theorem m7(B:Bl K mg base cv cA Cp)(bg:ag P w K mg base cv 4 "need_board" 1 aV)(cV:ag P w K mg base cv 2 "need_ways" 1 bI)(cT:ag P w K mg base cv 1 "is_whole" 1 aW)(T:bf K mg "need_melting" fO f):ag P w K mg base cv 5 "need_melting" 3 (bx):=
 ay (N:=iH) (ps:=iP) T nh (fun _ _ _ _ _ _ us hl=>match us,hl with | [_,_,_],_=>rfl) fun bc A outer s H E hr=>
  (ai (cE (aP bg (hr.mono (by decide)) rfl aL (aa (ab (pv 0)) ae) rfl)) (ai (cE (aP cV (hr.mono (by decide)) rfl aL (aa (ab (pv 1)) ae) rfl)) (ar (bB (PDW.t (eZ (cC (c_ (aP cT (hr.mono (by decide)) rfl aL (aa (ab (pv 2)) ae) rfl))) (dG (cC (tM kz kz av (ab (pv 2)) (tB rfl B.GREATEST_LEAST)))))) (ar gE) aZ))))
abbrev lX:Stmt:=top 32
def ra:List Str:=["board","ways"]
def rp:List Str:=["board","ways"]
theorem xQ:FnScope ra rp (af lX):=⟨rfl,rfl,rfl,by decide+kernel,rfl,by decide+kernel,by decide+kernel⟩
theorem xA(B:Bl K mg base cv cA Cp)(bg:ag P w K mg base cv 4 "need_board" 1 aV)(cV:ag P w K mg base cv 2 "need_ways" 1 bI)(bX:ag P w K mg base cv 5 "all_patches" 2 a6)(T:bf K mg "patches" lX f):ag P w K mg base cv 6 "patches" 2 (er):=
 ay (N:=ra) (ps:=rp) T xQ (fun _ _ _ _ _ _ us hl=>match us,hl with | [_,_],_=>rfl) fun bc A outer s H E hr=>
  (ai (cE (aP bg (hr.mono (by decide)) rfl aL (aa (ab (pv 0)) ae) rfl)) (ai (cE (aP cV (hr.mono (by decide)) rfl aL (aa (ab (pv 1)) ae) rfl)) (ar (az (aP bX (hr.mono (by decide)) rfl aL (aa (ab (pv 0)) (aa (ab (pv 1)) ae)) rfl)))))
abbrev j0:Stmt:=top 33
def oI:List Str:=["board","ways"]
def oX:List Str:=["board","ways"]
theorem vW:FnScope oI oX (af j0):=⟨rfl,rfl,rfl,by decide+kernel,rfl,by decide+kernel,by decide+kernel⟩
theorem vB(B:Bl K mg base cv cA Cp)(bg:ag P w K mg base cv 4 "need_board" 1 aV)(cV:ag P w K mg base cv 2 "need_ways" 1 bI)(bX:ag P w K mg base cv 5 "all_patches" 2 a6)(T:bf K mg "how_many" j0 f):ag P w K mg base cv 6 "how_many" 2 (bC):=
 ay (N:=oI) (ps:=oX) T vW (fun _ _ _ _ _ _ us hl=>match us,hl with | [_,_],_=>rfl) fun bc A outer s H E hr=>
  (ai (cE (aP bg (hr.mono (by decide)) rfl aL (aa (ab (pv 0)) ae) rfl)) (ai (cE (aP cV (hr.mono (by decide)) rfl aL (aa (ab (pv 1)) ae) rfl)) (ar (az (bG rfl B.len (aa (aP bX (hr.mono (by decide)) rfl aL (aa (ab (pv 0)) (aa (ab (pv 1)) ae)) rfl) ae))))))
abbrev d8:Stmt:=top 36
def fZ:List Str:=["board","ways","number","found"]
def f_:List Str:=["board","ways","number"]
theorem fQ:FnScope fZ f_ (af d8):=⟨rfl,rfl,rfl,by decide+kernel,rfl,by decide+kernel,by decide+kernel⟩
theorem jW(B:Bl K mg base cv cA Cp)(bg:ag P w K mg base cv 4 "need_board" 1 aV)(cV:ag P w K mg base cv 2 "need_ways" 1 bI)(bX:ag P w K mg base cv 5 "all_patches" 2 a6)(pV:ag P w K mg base cv 2 "need_number" 2 eG)(T:bf K mg "patch_of_number" d8 f):ag P w K mg base cv 6 "patch_of_number" 3 (cQ):=
 ay (N:=fZ) (ps:=f_) T fQ (fun _ _ _ _ _ _ us hl=>match us,hl with | [_,_,_],_=>rfl) fun bc A outer s H E hr=>
  (ai (cE (aP bg (hr.mono (by decide)) rfl aL (aa (ab (pv 0)) ae) rfl)) (ai (cE (aP cV (hr.mono (by decide)) rfl aL (aa (ab (pv 1)) ae) rfl)) (ai (aM fQ.nd rfl (by first | exact .inl rfl | exact .inr rfl) (aP bX (hr.mono (by decide)) rfl aL (aa (ab (pv 0)) (aa (ab (pv 1)) ae)) rfl)) (ai (cE (aP pV (hr.mono (by decide)) rfl aL (aa (bG rfl B.len (aa (ab (pv 3)) ae)) (aa (ab (pv 2)) ae)) rfl)) (ar (az (eY (ab (pv 3)) (ab (pv 2)))))))))
abbrev gf:Stmt:=top 43
def fX:List Str:=["board","ways","least","found","lengths","number","other"]
def mC:List Str:=["board","ways","least"]
theorem d_:FnScope fX mC (af gf):=⟨rfl,rfl,rfl,by decide+kernel,rfl,by decide+kernel,by decide+kernel⟩
set_option maxHeartbeats 4000000 in
theorem sU(B:Bl K mg base cv cA Cp)(bX:ag P w K mg base cv 5 "all_patches" 2 a6)(r_:ag P w K mg base cv 4 "melts_into" 3 dY)(nO:ag P w K mg base cv 2 "with_letters" 3 cg)(ck:ag P w K mg base cv 1 "letter_of" 2 aO)(T:bf K mg "after_one" gf f):ag P w K mg base cv 6 "after_one" 3 (a9):=
 ay (N:=fX) (ps:=mC) T d_ (fun _ _ _ _ _ _ us hl=>match us,hl with | [_,_,_],_=>rfl) fun bc A outer s H E hr=>
  (ai (aM d_.nd rfl (by first | exact .inl rfl | exact .inr rfl) (aP bX (hr.mono (by decide)) rfl aL (aa (ab (pv 0)) (aa (ab (pv 1)) ae)) rfl)) (ai (iS (tn:=["patch"]) (n:=0) d_.nd rfl (by first | exact .inl rfl | exact .inr rfl) (bK (N:=fX) (osc:=(af gf)) rfl rfl (by decide+kernel)) rfl rfl (bV (ab (pv 3))) (fun _ _ _ _ _ _ _=>eh (show List.Nodup (((["patch"]:List Str))++de ["patch"] fX) by decide+kernel) rfl rfl) (fun _ _ _ _ _ _=>dD) (fun _ _ _ _ _ _=>(bG rfl B.len (aa (ab (pv 0)) ae)))) (ai (bB (PDW.t (eZ (y0 hr.units (bG rfl B.len (aa (ab (pv 3)) ae)) av) (dG (y7 (tG rfl rfl B.min rfl (aa (ab (pv 4)) ae)) (ab (pv 2)))))) (ar (az tI)) aZ) (ai (aM d_.nd rfl (by first | exact .inl rfl | exact .inr rfl) (EV (ab (pv 4)) (aa (tG rfl rfl B.min rfl (aa (ab (pv 4)) ae)) ae))) (ai (aM d_.nd rfl (by first | exact .inl rfl | exact .inr rfl) (aP r_ (hr.mono (by decide)) rfl aL (aa (ab (pv 0)) (aa (ab (pv 3)) (aa (ab (pv 5)) ae))) rfl)) (ar (az (aP nO (hr.mono (by decide)) rfl aL (aa (ab (pv 0)) (aa (eY (ab (pv 3)) (ab (pv 5))) (aa (aP ck (hr.mono (by decide)) rfl aL (aa (ab (pv 0)) (aa (eY (eY (ab (pv 3)) (ab (pv 6))) av) ae)) rfl) ae))) rfl))))))))
abbrev xO:Stmt:=top 38
def B3:List Str:=["board","ways","number"]
def Cj:List Str:=["board","ways","number"]
theorem Fu:FnScope B3 Cj (af xO):=⟨rfl,rfl,rfl,by decide+kernel,rfl,by decide+kernel,by decide+kernel⟩
theorem EE(B:Bl K mg base cv cA Cp)(j7:ag P w K mg base cv 6 "patch_of_number" 3 cQ)(T:bf K mg "size" xO f):ag P w K mg base cv 7 "size" 3 (lx):=
 ay (N:=B3) (ps:=Cj) T Fu (fun _ _ _ _ _ _ us hl=>match us,hl with | [_,_,_],_=>rfl) fun bc A outer s H E hr=>
  (ar (az (bG rfl B.len (aa (aP j7 (hr.mono (by decide)) rfl aL (aa (ab (pv 0)) (aa (ab (pv 1)) (aa (ab (pv 2)) ae))) rfl) ae))))
abbrev iX:Stmt:=top 44
def mj:List Str:=["board","ways","least","told","now"]
def mE:List Str:=["board","ways","least"]
theorem fe:FnScope mj mE (af iX):=⟨rfl,rfl,rfl,by decide+kernel,rfl,by decide+kernel,by decide+kernel⟩
theorem sW(B:Bl K mg base cv cA Cp)(ip:ag P w K mg base cv 6 "after_one" 3 a9)(T:bf K mg "all_steps" iX f):ag P w K mg base cv 7 "all_steps" 3 (bU):=
 ay (N:=mj) (ps:=mE) T fe (fun _ _ _ _ _ _ us hl=>match us,hl with | [_,_,_],_=>rfl) fun bc A outer s H E hr=>
  (ai (g6 fe.nd rfl (by first | exact .inl rfl | exact .inr rfl)) (ai (aM fe.nd rfl (by first | exact .inl rfl | exact .inr rfl) (ab (pv 0))) (ai (da (rC PassesOwn.never (y8 (ab (pv 4)) tI) (ai (jr (pv 3) (ab (pv 4))) (ar (aM fe.nd rfl (by first | exact .inl rfl | exact .inr rfl) (aP ip (hr.mono (by decide)) rfl cS (aa (ab (pv 4)) (aa (ab (pv 1)) (aa (ab (pv 2)) ae))) rfl)))))) (ar (d6 (i:=3) (az (ab (pv 3))))))))
abbrev gn:Stmt:=top 45
def jD:List Str:=["board","ways","least"]
def jG:List Str:=["board","ways","least"]
theorem pw:FnScope jD jG (af gn):=⟨rfl,rfl,rfl,by decide+kernel,rfl,by decide+kernel,by decide+kernel⟩
theorem oU(B:Bl K mg base cv cA Cp)(cU:ag P w K mg base cv 5 "need_melting" 3 bx)(ip:ag P w K mg base cv 6 "after_one" 3 a9)(T:bf K mg "melted_once" gn f):ag P w K mg base cv 7 "melted_once" 3 (bH):=
 ay (N:=jD) (ps:=jG) T pw (fun _ _ _ _ _ _ us hl=>match us,hl with | [_,_,_],_=>rfl) fun bc A outer s H E hr=>
  (ai (cE (aP cU (hr.mono (by decide)) rfl aL (aa (ab (pv 0)) (aa (ab (pv 1)) (aa (ab (pv 2)) ae))) rfl)) (ar (az (aP ip (hr.mono (by decide)) rfl aL (aa (ab (pv 0)) (aa (ab (pv 1)) (aa (ab (pv 2)) ae))) rfl))))
abbrev pj:Stmt:=top 46
def vm:List Str:=["board","ways","least"]
def vI:List Str:=["board","ways","least"]
theorem Aw:FnScope vm vI (af pj):=⟨rfl,rfl,rfl,by decide+kernel,rfl,by decide+kernel,by decide+kernel⟩
theorem Ae(B:Bl K mg base cv cA Cp)(cU:ag P w K mg base cv 5 "need_melting" 3 bx)(ir:ag P w K mg base cv 7 "all_steps" 3 bU)(T:bf K mg "melted" pj f):ag P w K mg base cv 8 "melted" 3 (cX):=
 ay (N:=vm) (ps:=vI) T Aw (fun _ _ _ _ _ _ us hl=>match us,hl with | [_,_,_],_=>rfl) fun bc A outer s H E hr=>
  (ai (cE (aP cU (hr.mono (by decide)) rfl aL (aa (ab (pv 0)) (aa (ab (pv 1)) (aa (ab (pv 2)) ae))) rfl)) (ar (az (eY (aP ir (hr.mono (by decide)) rfl aL (aa (ab (pv 0)) (aa (ab (pv 1)) (aa (ab (pv 2)) ae))) rfl) (tH av)))))
abbrev j3:Stmt:=top 47
def oM:List Str:=["board","ways","least"]
def o4:List Str:=["board","ways","least"]
theorem v3:FnScope oM o4 (af j3):=⟨rfl,rfl,rfl,by decide+kernel,rfl,by decide+kernel,by decide+kernel⟩
theorem vF(B:Bl K mg base cv cA Cp)(cU:ag P w K mg base cv 5 "need_melting" 3 bx)(ir:ag P w K mg base cv 7 "all_steps" 3 bU)(T:bf K mg "steps_of" j3 f):ag P w K mg base cv 8 "steps_of" 3 (dP):=
 ay (N:=oM) (ps:=o4) T v3 (fun _ _ _ _ _ _ us hl=>match us,hl with | [_,_,_],_=>rfl) fun bc A outer s H E hr=>
  (ai (cE (aP cU (hr.mono (by decide)) rfl aL (aa (ab (pv 0)) (aa (ab (pv 1)) (aa (ab (pv 2)) ae))) rfl)) (ar (az (aP ir (hr.mono (by decide)) rfl aL (aa (ab (pv 0)) (aa (ab (pv 1)) (aa (ab (pv 2)) ae))) rfl))))
abbrev aj:Stmt:=top 54
def aG:List Str:=["_law_script","_law_board_here","_law_ways","_law_least","_law_last","_law_many","_law_sizes","_law_rows","_law_one","_law_other","_law_own","_law_patch"]
def lK:List Str:=["_law_script"]
theorem bE:FnScope aG lK (af aj):=⟨rfl,rfl,rfl,by decide+kernel,rfl,by decide+kernel,by decide+kernel⟩
set_option maxHeartbeats 4000000 in
theorem t8(B:Bl K mg base cv cA Cp)(iu:ag P w K mg base cv 3 "_law_board" 3 eN){bc:Value}{A:Around}{outer:List Env}{s:Shared}{H:Hp}{E:XK}(hr:Room 8 (A.deeper (envOfC "law" (af aj) s.heap.objs.size f bc))):
 Box (gL (dj (jy P w cv) P w K mg base aG "law" (af aj) f bc A outer s H E) (fun n H'=>E (cv n) none H') ((aR aj).getD 0 (.Pass ⟨0,0,0,0⟩)) mP):=
 ⟨(aM bE.nd rfl (by first | exact .inl rfl | exact .inr rfl) (aP iu (hr.mono (by decide)) rfl aL (aa (ab (pv 0)) (aa av (aa av ae))) rfl))⟩
set_option maxHeartbeats 4000000 in
theorem t9(B:Bl K mg base cv cA Cp)(bu:ag P w K mg base cv 2 "_law_drawn" 3 aH){bc:Value}{A:Around}{outer:List Env}{s:Shared}{H:Hp}{E:XK}(hr:Room 8 (A.deeper (envOfC "law" (af aj) s.heap.objs.size f bc))):
 Box (gL (dj (jy P w cv) P w K mg base aG "law" (af aj) f bc A outer s H E) (fun n H'=>E (cv n) none H') ((aR aj).getD 1 (.Pass ⟨0,0,0,0⟩)) mQ):=
 ⟨(aM bE.nd rfl (by first | exact .inl rfl | exact .inr rfl) (eY (lN (aa av (aa av ae))) (aP bu (hr.mono (by decide)) rfl aL (aa (ab (pv 0)) (aa av (aa av ae))) rfl)))⟩
set_option maxHeartbeats 4000000 in
theorem t_(B:Bl K mg base cv cA Cp)(bu:ag P w K mg base cv 2 "_law_drawn" 3 aH){bc:Value}{A:Around}{outer:List Env}{s:Shared}{H:Hp}{E:XK}(hr:Room 8 (A.deeper (envOfC "law" (af aj) s.heap.objs.size f bc))):
 Box (gL (dj (jy P w cv) P w K mg base aG "law" (af aj) f bc A outer s H E) (fun n H'=>E (cv n) none H') ((aR aj).getD 2 (.Pass ⟨0,0,0,0⟩)) mR):=
 ⟨(aM bE.nd rfl (by first | exact .inl rfl | exact .inr rfl) (cO av (aP bu (hr.mono (by decide)) rfl aL (aa (ab (pv 0)) (aa av (aa av ae))) rfl)))⟩
set_option maxHeartbeats 4000000 in
theorem ua(B:Bl K mg base cv cA Cp)(cG:ag P w K mg base cv 8 "melted" 3 cX){bc:Value}{A:Around}{outer:List Env}{s:Shared}{H:Hp}{E:XK}(hr:Room 8 (A.deeper (envOfC "law" (af aj) s.heap.objs.size f bc))):
 Box (gL (dj (jy P w cv) P w K mg base aG "law" (af aj) f bc A outer s H E) (fun n H'=>E (cv n) none H') ((aR aj).getD 3 (.Pass ⟨0,0,0,0⟩)) mS):=
 ⟨(aM bE.nd rfl (by first | exact .inl rfl | exact .inr rfl) (aP cG (hr.mono (by decide)) rfl aL (aa (ab (pv 1)) (aa (ab (pv 2)) (aa (ab (pv 3)) ae))) rfl))⟩
set_option maxHeartbeats 4000000 in
theorem ub(B:Bl K mg base cv cA Cp)(bY:ag P w K mg base cv 6 "how_many" 2 bC){bc:Value}{A:Around}{outer:List Env}{s:Shared}{H:Hp}{E:XK}(hr:Room 8 (A.deeper (envOfC "law" (af aj) s.heap.objs.size f bc))):
 Box (gL (dj (jy P w cv) P w K mg base aG "law" (af aj) f bc A outer s H E) (fun n H'=>E (cv n) none H') ((aR aj).getD 4 (.Pass ⟨0,0,0,0⟩)) mT):=
 ⟨(aM bE.nd rfl (by first | exact .inl rfl | exact .inr rfl) (aP bY (hr.mono (by decide)) rfl aL (aa (ab (pv 4)) (aa (ab (pv 2)) ae)) rfl))⟩
set_option maxHeartbeats 4000000 in
theorem uc(B:Bl K mg base cv cA Cp)(wN:ag P w K mg base cv 7 "size" 3 lx){bc:Value}{A:Around}{outer:List Env}{s:Shared}{H:Hp}{E:XK}(hr:Room 8 (A.deeper (envOfC "law" (af aj) s.heap.objs.size f bc))):
 Box (gL (dj (jy P w cv) P w K mg base aG "law" (af aj) f bc A outer s H E) (fun n H'=>E (cv n) none H') ((aR aj).getD 5 (.Pass ⟨0,0,0,0⟩)) mU):=
 ⟨(iS (tn:=["_law_number"]) (n:=0) bE.nd rfl (by first | exact .inl rfl | exact .inr rfl) (bK (N:=aG) (osc:=(af aj)) rfl rfl (by decide+kernel)) rfl rfl (eC rfl B.range (aa (ab (pv 5)) ae)) (fun _ _ _ _ _ _ _=>eh (show List.Nodup (((["_law_number"]:List Str))++de ["_law_number"] aG) by decide+kernel) rfl rfl) (fun _ _ _ _ _ _=>dD) (fun _ _ _ _ _ _=>(aP wN (hr.mono (by decide)) rfl cS (aa (ab (pv 5)) (aa (ab (pv 3)) (aa (ab (pv 0)) ae))) rfl)))⟩
set_option maxHeartbeats 4000000 in
theorem ud(B:Bl K mg base cv cA Cp){bc:Value}{A:Around}{outer:List Env}{s:Shared}{H:Hp}{E:XK}(hr:Room 8 (A.deeper (envOfC "law" (af aj) s.heap.objs.size f bc))):
 Box (gL (dj (jy P w cv) P w K mg base aG "law" (af aj) f bc A outer s H E) (fun n H'=>E (cv n) none H') ((aR aj).getD 6 (.Pass ⟨0,0,0,0⟩)) mV):=
 ⟨(bB (PDW.t (tJ (Kz (ab (pv 5)) av) (o7 (Gs (tG rfl rfl B.min rfl (aa (ab (pv 6)) ae)) (ab (pv 3)))))) (ar (az gb)) aZ)⟩
set_option maxHeartbeats 4000000 in
theorem ue(B:Bl K mg base cv cA Cp)(cG:ag P w K mg base cv 8 "melted" 3 cX)(cK:ag P w K mg base cv 7 "melted_once" 3 bH){bc:Value}{A:Around}{outer:List Env}{s:Shared}{H:Hp}{E:XK}(hr:Room 8 (A.deeper (envOfC "law" (af aj) s.heap.objs.size f bc))):
 Box (gL (dj (jy P w cv) P w K mg base aG "law" (af aj) f bc A outer s H E) (fun n H'=>E (cv n) none H') ((aR aj).getD 7 (.Pass ⟨0,0,0,0⟩)) mW):=
 ⟨(bB (PDW.t (eZ (jI hr.units (aP cG (hr.mono (by decide)) rfl aL (aa (ab (pv 4)) (aa (ab (pv 2)) (aa (ab (pv 3)) ae))) rfl) (ab (pv 4))) (dG (y8 (aP cK (hr.mono (by decide)) rfl aL (aa (ab (pv 4)) (aa (ab (pv 2)) (aa (ab (pv 3)) ae))) rfl) tI)))) (ar (az gb)) aZ)⟩
set_option maxHeartbeats 4000000 in
theorem uf(B:Bl K mg base cv cA Cp)(ek:ag P w K mg base cv 8 "steps_of" 3 dP){bc:Value}{A:Around}{outer:List Env}{s:Shared}{H:Hp}{E:XK}(hr:Room 8 (A.deeper (envOfC "law" (af aj) s.heap.objs.size f bc))):
 Box (gL (dj (jy P w cv) P w K mg base aG "law" (af aj) f bc A outer s H E) (fun n H'=>E (cv n) none H') ((aR aj).getD 8 (.Pass ⟨0,0,0,0⟩)) mX):=
 ⟨(aM bE.nd rfl (by first | exact .inl rfl | exact .inr rfl) (aP ek (hr.mono (by decide)) rfl aL (aa (ab (pv 1)) (aa (ab (pv 2)) (aa (ab (pv 3)) ae))) rfl))⟩
set_option maxHeartbeats 4000000 in
theorem ug(B:Bl K mg base cv cA Cp){bc:Value}{A:Around}{outer:List Env}{s:Shared}{H:Hp}{E:XK}(hr:Room 8 (A.deeper (envOfC "law" (af aj) s.heap.objs.size f bc))):
 Box (gL (dj (jy P w cv) P w K mg base aG "law" (af aj) f bc A outer s H E) (fun n H'=>E (cv n) none H') ((aR aj).getD 9 (.Pass ⟨0,0,0,0⟩)) mY):=
 ⟨(bB (PDW.t (eZ (jI hr.units (eY (ab (pv 7)) av) (ab (pv 1))) (dG (jI hr.units (eY (ab (pv 7)) (tH av)) (ab (pv 4)))))) (ar (az gb)) aZ)⟩
set_option maxHeartbeats 4000000 in
theorem qj(B:Bl K mg base cv cA Cp)(bY:ag P w K mg base cv 6 "how_many" 2 bC)(cK:ag P w K mg base cv 7 "melted_once" 3 bH){bc:Value}{A:Around}{outer:List Env}{s:Shared}{H:Hp}{E:XK}(hr:Room 8 (A.deeper (envOfC "law" (af aj) s.heap.objs.size f bc))):
 Box (gL (dj (jy P w cv) P w K mg base aG "law" (af aj) f bc A outer s H E) (fun n H'=>E (cv n) none H') ((aR aj).getD 10 (.Pass ⟨0,0,0,0⟩)) kT):=
 ⟨(da (b9 PassesOwn.never rfl (EZ rfl B.zip (aa (ab (pv 7)) (aa (Kr (ab (pv 7)) (CA av) Cz) ae))) (tK rfl (eT (a7 bE.nd rfl (by first | exact .inl rfl | exact .inr rfl)) (eT (a7 bE.nd rfl (by first | exact .inl rfl | exact .inr rfl)) nz))) (tO (is:=[8,9])) (bA (ar (bB (PDW.t (eZ (jI hr.units (aP cK (hr.mono (by decide)) rfl cS (aa (ab (pv 8)) (aa (ab (pv 2)) (aa (ab (pv 3)) ae))) rfl) (ab (pv 9))) (dG (y7 (aP bY (hr.mono (by decide)) rfl cS (aa (ab (pv 9)) (aa (ab (pv 2)) ae)) rfl) (aP bY (hr.mono (by decide)) rfl cS (aa (ab (pv 8)) (aa (ab (pv 2)) ae)) rfl))))) (ar (az gb)) aZ)))))⟩
set_option maxHeartbeats 4000000 in
theorem qk(B:Bl K mg base cv cA Cp)(fj:ag P w K mg base cv 5 "letters" 1 cb){bc:Value}{A:Around}{outer:List Env}{s:Shared}{H:Hp}{E:XK}(hr:Room 8 (A.deeper (envOfC "law" (af aj) s.heap.objs.size f bc))):
 Box (gL (dj (jy P w cv) P w K mg base aG "law" (af aj) f bc A outer s H E) (fun n H'=>E (cv n) none H') ((aR aj).getD 11 (.Pass ⟨0,0,0,0⟩)) kU):=
 ⟨(aM bE.nd rfl (by first | exact .inl rfl | exact .inr rfl) (eJ (tn:=["_law_letter","_law_count"]) (n:=2) (bK (N:=aG) (osc:=(af aj)) rfl rfl (by decide+kernel)) rfl rfl (bV (aP fj (hr.mono (by decide)) rfl aL (aa (ab (pv 1)) ae) rfl)) (fun _ _ _ _ _ _ _=>Dq (show List.Nodup (((["_law_letter","_law_count"]:List Str))++de ["_law_letter","_law_count"] aG) by decide+kernel) rfl rfl rfl rfl rfl) (fun _ _ _ _ _ _=>dD) (fun _ _ _ _ _ _=>(ab (pv 0)))))⟩
set_option maxHeartbeats 4000000 in
theorem ql(B:Bl K mg base cv cA Cp)(fj:ag P w K mg base cv 5 "letters" 1 cb){bc:Value}{A:Around}{outer:List Env}{s:Shared}{H:Hp}{E:XK}(hr:Room 8 (A.deeper (envOfC "law" (af aj) s.heap.objs.size f bc))):
 Box (gL (dj (jy P w cv) P w K mg base aG "law" (af aj) f bc A outer s H E) (fun n H'=>E (cv n) none H') ((aR aj).getD 12 (.Pass ⟨0,0,0,0⟩)) kW):=
 ⟨(bB (jI hr.units (eJ (tn:=["_law_letter","_law_count"]) (n:=2) (bK (N:=aG) (osc:=(af aj)) rfl rfl (by decide+kernel)) rfl rfl (bV (aP fj (hr.mono (by decide)) rfl aL (aa (ab (pv 4)) ae) rfl)) (fun _ _ _ _ _ _ _=>Dq (show List.Nodup (((["_law_letter","_law_count"]:List Str))++de ["_law_letter","_law_count"] aG) by decide+kernel) rfl rfl rfl rfl rfl) (fun _ _ _ _ _ _=>(pI (Aq hr.units (ab (pv 0)) (ab (pv 12))))) (fun _ _ _ _ _ _=>(ab (pv 0)))) (lN ae)) (ar (az gb)) aZ)⟩
set_option maxHeartbeats 4000000 in
theorem qm(B:Bl K mg base cv cA Cp)(lj:ag P w K mg base cv 6 "patches" 2 er)(eM:ag P w K mg base cv 5 "letter_at" 2 bo){bc:Value}{A:Around}{outer:List Env}{s:Shared}{H:Hp}{E:XK}(hr:Room 8 (A.deeper (envOfC "law" (af aj) s.heap.objs.size f bc))):
 Box (gL (dj (jy P w cv) P w K mg base aG "law" (af aj) f bc A outer s H E) (fun n H'=>E (cv n) none H') ((aR aj).getD 13 (.Pass ⟨0,0,0,0⟩)) kX):=
 ⟨(da (b9 PassesOwn.never rfl (bV (aP lj (hr.mono (by decide)) rfl cS (aa (ab (pv 1)) (aa (ab (pv 2)) ae)) rfl)) (a7 bE.nd rfl (by first | exact .inl rfl | exact .inr rfl)) cj (bA (ai (bB (PDW.t (tJ (y7 (bG rfl B.len (aa (ab (pv 11)) ae)) (ab (pv 3))) (o7 (jI hr.units (xH rfl rfl B.len rfl B.set rfl rfl (eJ (tn:=["_law_cell_here"]) (n:=0) (bK (N:=aG) (osc:=(af aj)) rfl rfl (by decide+kernel)) rfl rfl (bV (ab (pv 11))) (fun _ _ _ _ _ _ _=>eh (show List.Nodup (((["_law_cell_here"]:List Str))++de ["_law_cell_here"] aG) by decide+kernel) rfl rfl) (fun _ _ _ _ _ _=>dD) (fun _ _ _ _ _ _=>(aP eM (hr.mono (by decide)) rfl cS (aa (ab (pv 5)) (aa (ab (pv 0)) ae)) rfl)))) av)))) (ar (az gb)) aZ) (ar (bB (PDW.t (tJ (y7 (bG rfl B.len (aa (ab (pv 11)) ae)) (ab (pv 3))) (o7 (jI hr.units (aP eM (hr.mono (by decide)) rfl cS (aa (ab (pv 4)) (aa (eY (ab (pv 11)) av) ae)) rfl) (aP eM (hr.mono (by decide)) rfl cS (aa (ab (pv 1)) (aa (eY (ab (pv 11)) av) ae)) rfl))))) (ar (az gb)) aZ))))))⟩
set_option maxHeartbeats 4000000 in
theorem qo(B:Bl K mg base cv cA Cp)(cG:ag P w K mg base cv 8 "melted" 3 cX)(ek:ag P w K mg base cv 8 "steps_of" 3 dP){bc:Value}{A:Around}{outer:List Env}{s:Shared}{H:Hp}{E:XK}(hr:Room 8 (A.deeper (envOfC "law" (af aj) s.heap.objs.size f bc))):
 Box (gL (dj (jy P w cv) P w K mg base aG "law" (af aj) f bc A outer s H E) (fun n H'=>E (cv n) none H') ((aR aj).getD 14 (.Pass ⟨0,0,0,0⟩)) kY):=
 ⟨(bB (PDW.t (eZ (jI hr.units (aP cG (hr.mono (by decide)) rfl aL (aa (ab (pv 1)) (aa (ab (pv 2)) (aa av ae))) rfl) (ab (pv 1))) (dG (jI hr.units (aP ek (hr.mono (by decide)) rfl aL (aa (ab (pv 1)) (aa (ab (pv 2)) (aa av ae))) rfl) (lN (aa (ab (pv 1)) ae)))))) (ar (az gb)) aZ)⟩
set_option maxHeartbeats 4000000 in
theorem qp(B:Bl K mg base cv cA Cp)(cG:ag P w K mg base cv 8 "melted" 3 cX)(bY:ag P w K mg base cv 6 "how_many" 2 bC){bc:Value}{A:Around}{outer:List Env}{s:Shared}{H:Hp}{E:XK}(hr:Room 8 (A.deeper (envOfC "law" (af aj) s.heap.objs.size f bc))):
 Box (gL (dj (jy P w cv) P w K mg base aG "law" (af aj) f bc A outer s H E) (fun n H'=>E (cv n) none H') ((aR aj).getD 15 (.Pass ⟨0,0,0,0⟩)) kZ):=
 ⟨(az (vK hr.units (aP bY (hr.mono (by decide)) rfl aL (aa (aP cG (hr.mono (by decide)) rfl aL (aa (ab (pv 1)) (aa (ab (pv 2)) (aa av ae))) rfl) (aa (ab (pv 2)) ae)) rfl) av))⟩
set_option maxHeartbeats 4000000 in
theorem vz{fd:FuncData}(B:Bl K mg base cv cA Cp)(iu:ag P w K mg base cv 3 "_law_board" 3 eN)(cG:ag P w K mg base cv 8 "melted" 3 cX)(bY:ag P w K mg base cv 6 "how_many" 2 bC)(ek:ag P w K mg base cv 8 "steps_of" 3 dP)(lj:ag P w K mg base cv 6 "patches" 2 er)(bu:ag P w K mg base cv 2 "_law_drawn" 3 aH)(wN:ag P w K mg base cv 7 "size" 3 lx)(cK:ag P w K mg base cv 7 "melted_once" 3 bH)(fj:ag P w K mg base cv 5 "letters" 1 cb)(eM:ag P w K mg base cv 5 "letter_at" 2 bo)(Fn:Fun K "law" "law" aj f fd):FnOk P w K mg base (jy P w cv) 9 f fd lK (IP K cv 1 jg):=
 Jq (N:=aG) (ps:=lK) (τ:=l6) Fn bE fun bc A outer s H E hr=>by
  obtain⟨Q3⟩:Box (PSDs (dj (jy P w cv) P w K mg base aG "law" (af aj) f bc A outer s H E) (fun n H'=>E (cv n) none H') (aR aj) l6):=(dN (t8 B iu hr) (dN (t9 B bu hr) (dN (t_ B bu hr) (dN (ua B cG hr) (dN (ub B bY hr) (dN (uc B wN hr) (dN (ud B hr) (dN (ue B cG cK hr) (dN (uf B ek hr) (dN (ug B hr) (dN (qj B bY cK hr) (dN (qk B fj hr) (dN (ql B fj hr) (dN (qm B lj eM hr) (dN (qo B cG ek hr) (GL (qp B cG bY hr)))))))))))))))))
  assumption
end
end K1
namespace K1
open PySem L2 L3
theorem B2{ds:List D}(h:ds.length≤lim):fW ds=M.ret (.lst ds):=if_pos h
theorem dh:lim=4096:=rfl
theorem dW{α:Type}{xs:List α}{i:Nat}{x:α}(h:xs[i]? =some x):L2.atI xs (i:Int)=some x:=by
 obtain⟨hi,e⟩:=List.getElem?_eq_some_iff.mp h
 unfold L2.atI BR
 rw[if_pos (Int.natCast_nonneg i),if_pos (by exact Int.ofNat_lt.mpr hi)]
 exact h
theorem ah{m:Nat}{g:List D→M D}{δs:DA}{ρ:a5}{ds:List D}(h:δs ρ=M.ret ds)(hl:ds.length=m):ak m g δs ρ=g ds:=by
 unfold ak
 rw[h]
 exact if_pos hl
theorem aK{a:DE}{r:DA}{ρ:a5}{x:D}{xs:List D}(h1:a ρ=M.ret x)(h2:r ρ=M.ret xs):aC a r ρ=M.ret (x::xs):=by
 unfold aC
 rw[h1,au,h2]
 rfl
theorem aF{g:D→D→M D}{a b:DE}{ρ:a5}{x y:D}(h1:a ρ=M.ret x)(h2:b ρ=M.ret y):d2 g a b ρ=g x y:=by
 unfold d2
 rw[h1,au,h2]
 rfl
theorem bQ{g:List D→M D}{a:DA}{ρ:a5}{xs:List D}(h:a ρ=M.ret xs):dA g a ρ=g xs:=by
 unfold dA
 rw[h]
 rfl
theorem gy{i j:Int}(h:0<j):kg (.int i) (.int j)=M.ret (.int (i % j)):=by
 show (if decide (0<j)=true then _ else _)=_
 rw[if_pos (decide_eq_true h)]
theorem kf{i j:Int}(h:0<j)(h2:j<1073741824):p4 (.int i) (.int j)=M.ret (.int (i / j)):=by
 show (if decide (0<j∧j<1073741824)=true then _ else _)=_
 rw[if_pos (decide_eq_true ⟨h,h2⟩)]
theorem gz{i j:Int}(h:(-(2 ^ 64)<i∧i<2 ^ 64)∨(-(2 ^ 64)<j∧j<2 ^ 64)):iA (.int i) (.int j)=M.ret (.int (i*j)):=by
 show (if decide _=true then _ else _)=_
 rw[if_pos (decide_eq_true h)]
theorem gx{i j:Int}:c6 (.int i) (.int j)=M.ret (.int (i+j)):=rfl
theorem Bt{i j:Int}:nY (.int i) (.int j)=M.ret (.int (i - j)):=rfl
theorem A1(ns:List Int)(hl:ns.length≤63)(k:Nat):∃v,fC [.scr ns, .int (k:Int)]=M.ret (.int v):=by
 cases ns with
 |nil=>
  refine⟨7*(k:Int),?_⟩
  rfl
 |cons n r=>
  have hp:0<(n::r).length:=Nat.succ_pos _
  generalize e:(n::r)=ns at*
  have he:p0 6 (.scr ns) (.lst [])=some false:=by subst e;rfl
  obtain⟨y,hy⟩:∃y,ns[k % ns.length]? =some y:=⟨_,List.getElem?_eq_getElem (Nat.mod_lt _ hp)⟩
  have Om:(0:Int)<(ns.length:Int):=by omega
  have h1:kg (.int (k:Int)) (.int (ns.length:Int))=M.ret (.int ((k % ns.length:Nat):Int)):=gy Om
  have h2:p4 (.int (k:Int)) (.int (ns.length:Int))=M.ret (.int ((k:Int) / (ns.length:Int))):=kf Om (by omega)
  have h3:Bq (.scr ns) (.int ((k % ns.length:Nat):Int))=M.ret (.int y):=by
   show (match L2.atI ns ((k % ns.length:Nat):Int) with | some n=>M.ret (D.int n) | none=>M.stuck)=_
   rw[dW hy]
  have h4:iA (.int 6553) (.int ((k:Int) / (ns.length:Int)))=M.ret (.int (6553*((k:Int) / (ns.length:Int)))):=gz (.inl ⟨by decide,by decide⟩)
  refine⟨y+6553*((k:Int) / (ns.length:Int)),?_⟩
  simp only[fC,pO,bO,aA,gc,ba,cF,bS,d2,dV,dC,dA,aC,aN,fW,bb,AL,nu,he,au,h1,h2,h3,h4,List.map_cons,List.map_nil,List.cons_append,List.nil_append,List.length_cons,List.length_nil,List.getElem?_cons_zero,List.getElem?_cons_succ,dh,Nat.reduceAdd,Nat.zero_le,if_true,Bool.false_eq_true,if_false,c6,gI]
theorem fk(ns:List Int)(hl:ns.length≤63)(k m:Nat)(hm:0<m):∃v:Nat,v<m∧aH [.scr ns, .int (k:Int), .int (m:Int)]=M.ret (.int (v:Int)):=by
 obtain⟨c,hc⟩:=A1 ns hl k
 have b1:=Int.emod_nonneg (c % 2147483563*69069+104723*((k:Int)+1)) (b:=2147483563) (by decide)
 have b2:=Int.emod_lt_of_pos (c % 2147483563*69069+104723*((k:Int)+1)) (b:=2147483563) (by decide)
 generalize hx:(c % 2147483563*69069+104723*((k:Int)+1)) % 2147483563=x at b1 b2
 have b3:=Int.emod_nonneg (x*x+x / 3) (b:=2147483399) (by decide)
 have b4:=Int.emod_lt_of_pos (x*x+x / 3) (b:=2147483399) (by decide)
 generalize hy:(x*x+x / 3) % 2147483399=y at b3 b4
 have m1:iA (.int (c % 2147483563)) (.int 69069)=_:=gz (.inr ⟨by decide,by decide⟩)
 have m2:iA (.int 104723) (.int ((k:Int)+1))=_:=gz (.inl ⟨by decide,by decide⟩)
 have m3:iA (.int x) (.int x)=_:=gz (.inl ⟨by omega,by omega⟩)
 have m4:iA (.int y) (.int y)=_:=gz (.inl ⟨by omega,by omega⟩)
 have hM:(0:Int)<(m:Int):=Int.ofNat_lt.mpr hm
 have n1:=Int.emod_nonneg ((y*y+y / 7) % 2147483647 / 11) (b:=(m:Int)) (by omega)
 have n2:=Int.emod_lt_of_pos ((y*y+y / 7) % 2147483647 / 11) hM
 have q1:kg (.int c) (.int 2147483563)=_:=gy (by decide)
 have q2:kg (.int (c % 2147483563*69069+104723*((k:Int)+1))) (.int 2147483563)=_:=gy (by decide)
 have q3:p4 (.int x) (.int 3)=_:=kf (by decide) (by decide)
 have q4:kg (.int (x*x+x / 3)) (.int 2147483399)=_:=gy (by decide)
 have q5:p4 (.int y) (.int 7)=_:=kf (by decide) (by decide)
 have q6:kg (.int (y*y+y / 7)) (.int 2147483647)=_:=gy (by decide)
 have q7:p4 (.int ((y*y+y / 7) % 2147483647)) (.int 11)=_:=kf (by decide) (by decide)
 have q8:kg (.int ((y*y+y / 7) % 2147483647 / 11)) (.int (m:Int))=_:=gy hM
 refine⟨((y*y+y / 7) % 2147483647 / 11 % (m:Int)).toNat,by omega,?_⟩
 rw[Int.toNat_of_nonneg n1]
 rw[hx] at q2
 rw[hy] at q4
 simp only[aH,mO,bO,aA,bD,ba,ak,d2,dV,dC,dA,aC,aN,au,hc,List.map_cons,List.map_nil,List.cons_append,List.nil_append,List.length_cons,List.length_nil,List.getElem?_cons_zero,List.getElem?_cons_succ,List.replicate,List.set_cons_zero,List.set_cons_succ,Nat.reduceAdd,Nat.reduceSub,if_true,gx,m1,m2,m3,m4,q1,q2,q3,q4,q5,q6,q7,q8]
theorem B9{α:Type}(a:α):noex (M.ret a)=M.ret a:=rfl
theorem uV{put:D→a5→Option a5}{body:DS}{I:Nat→a5→Prop}:∀(ds:List D) (i:Nat) (ρ:a5),I i ρ→
 (∀j d,ds[j]? =some d→∀ρ,I (i+j) ρ→∃ρ1 ρ2,put d ρ=some ρ1∧body ρ1=M.ret (.nx ρ2)∧I (i+j+1) ρ2)→∃ρ',forL put body ds ρ=M.ret (.nx ρ')∧I (i+ds.length) ρ'
 |[],i,ρ,h,_=>⟨ρ,rfl,h⟩
 |d::ds,i,ρ,h,step=>by
  obtain⟨ρ1,ρ2,e1,e2,h2⟩:=step 0 d rfl ρ h
  obtain⟨ρ',e3,h3⟩:=uV (I:=I) ds (i+1) ρ2 h2 fun j d' hd ρ hI=>by
   have:=step (j+1) d' hd ρ (by rw[show i+(j+1)=i+1+j by omega];exact hI)
   rw[show i+(j+1)+1=i+1+j+1 by omega] at this
   exact this
  refine⟨ρ',?_,?_⟩
  ·show (match put d ρ with | none=>M.stuck | some ρ1=>body ρ1>>=fun o=>match o with | .nx ρ2=>forL put body ds ρ2 | .rt v=>M.ret (.rt v))=_
   rw[e1]
   show (body ρ1>>=fun o=>match o with | .nx ρ2=>forL put body ds ρ2 | .rt v=>M.ret (.rt v))=_
   rw[e2]
   exact e3
  ·rw[show i+(d::ds).length=i+1+ds.length by simp;omega]
   exact h3
theorem qC{f:D→M (Option D)}{Pr:D→Prop}:∀(ds:List D),(∀d∈ds,∃y,f d=M.ret (some y)∧Pr y)→∃ys,di f ds=M.ret ys∧ys.length=ds.length∧∀y∈ys,Pr y
 |[],_=>⟨[],rfl,rfl,fun _ h=>by cases h⟩
 |d::ds,h=>by
  obtain⟨y,e,hy⟩:=h d (List.mem_cons_self ..)
  obtain⟨ys,e2,hl,hp⟩:=qC ds fun d' hd=>h d' (List.mem_cons_of_mem _ hd)
  refine⟨y::ys,?_,by simp[hl],fun z hz=>?_⟩
  ·rw[el,e,au,e2]
   rfl
  ·cases hz with
   |head=>exact hy
   |tail _ hz=>exact hp z hz
theorem gw{f:D→M (Option D)}{g:D→D}:∀(ds:List D),(∀d∈ds,f d=M.ret (some (g d)))→di f ds=M.ret (ds.map g)
 |[],_=>rfl
 |d::ds,h=>by
  rw[el,h d (List.mem_cons_self ..),au,gw ds fun d' hd=>h d' (List.mem_cons_of_mem _ hd)]
  rfl
def Gh(x:Str):Bool:=!(Builtin.Str.occurrences ("abcdef":Str) x 0 ("abcdef":Str).length 1).isEmpty
structure Row (W:Nat) (r:Str):Prop where
 len:r.length=W
 let':∀c∈r.cps.toList,Gh ⟨#[c]⟩=true
structure Good (bd:List Str) (W:Nat):Prop where
 r1:1≤bd.length
 r5:bd.length≤5
 w1:1≤W
 w5:W≤5
 rows:∀r∈bd,Row W r
abbrev lE(c:Nat):Prop:=Gh ⟨#[c]⟩=true∧c≠101
def Lb(r:Str):Prop:=∀c∈r.cps.toList,c≠101
theorem wb:∀(ys:List D),(∀y∈ys,∃c,y= .str ⟨#[c]⟩∧lE c)→∃xs,h9 ys=some xs∧xs.length=ys.length∧(xs.map (·.length)).sum=ys.length∧Row ys.length (dg xs)∧Lb (dg xs)
 |[],_=>⟨[],rfl,rfl,rfl,⟨rfl,fun c h=>by cases h⟩,fun c h=>by cases h⟩
 |y::ys,h=>by
  obtain⟨c,e,hc⟩:=h y (List.mem_cons_self ..)
  obtain⟨xs,e1,e2,e3,e4,e5⟩:=wb ys fun z hz=>h z (List.mem_cons_of_mem _ hz)
  subst e
  have zM:∀z,z∈((⟨#[c]⟩:Str)++dg xs).cps.toList→z=c∨z∈(dg xs).cps.toList:=fun z hz=>by
   have:((⟨#[c]⟩:Str)++dg xs).cps= #[c]++(dg xs).cps:=rfl
   rw[this] at hz
   simpa using hz
  refine⟨⟨#[c]⟩::xs,?_,by simp[e2],?_,⟨?_,fun z hz=>?_⟩,fun z hz=>?_⟩
  ·show (h9 ys).map _=_
   rw[e1]
   rfl
  ·rw[List.map_cons,List.sum_cons,e3]
   show 1+ys.length=_
   simp
   omega
  ·show ((⟨#[c]⟩:Str)++dg xs).length=_
   rw[i_,e4.len]
   show 1+ys.length=_
   simp
   omega
  ·rcases zM z hz with rfl | q
   ·exact hc.1
   ·exact e4.let' z q
  ·rcases zM z hz with rfl | q
   ·exact hc.2
   ·exact e5 z q
theorem C3{lo:Int}{n:Nat}{d:D}(h:d∈gH lo n):∃i:Nat,i<n∧d= .int (lo+(i:Int)):=by
 unfold gH at h
 obtain⟨i,hi,e⟩:=List.mem_map.mp h
 exact⟨i,List.mem_range.mp hi,e.symm⟩
theorem Fo{lo:Int}{n j:Nat}{d:D}(h:(gH lo n)[j]? =some d):j<n∧d= .int (lo+(j:Int)):=by
 unfold gH at h
 rw[List.getElem?_map] at h
 by_cases hj:j<n
 ·rw[List.getElem?_range hj] at h
  cases h
  exact⟨hj,rfl⟩
 ·rw[List.getElem?_eq_none (by simpa using hj)] at h
  cases h
theorem iU(lo:Int)(n:Nat):(gH lo n).length=n:=by simp[gH]
abbrev fz(d:D):Option Sl:=some (.fz d)
theorem ix{δe:DE}{ρ:a5}{d:D}:gu 0 b_ δe ρ d=(δe (fz d::ρ)>>=fun y=>M.ret (some y)):=rfl
theorem A6{δt:DT}{δe:DE}{ρ:a5}{d:D}:gu 0 δt δe ρ d=(δt (fz d::ρ)>>=fun b=>if b then δe (fz d::ρ)>>=fun y=>M.ret (some y) else M.ret none):=rfl
theorem ao{a b:DS}{ρ ρ':a5}{o:M Out}(h:a ρ=M.ret (.nx ρ'))(h2:b ρ'=o):aA a b ρ=o:=by
 unfold aA
 rw[h]
 exact h2
theorem dI{a b:DS}{ρ:a5}{d:D}(h:a ρ=M.ret (.rt d)):aA a b ρ=M.ret (.rt d):=by
 unfold aA
 rw[h]
 rfl
theorem aI{i:Nat}{δ:DE}{ρ:a5}{d:D}(h:δ ρ=M.ret d):bD i δ ρ=M.ret (.nx (ρ.set i (fz d))):=by
 unfold bD
 rw[h]
 rfl
theorem eU{c:DT}{a b:DS}{ρ:a5}{o:M Out}(h:c ρ=M.ret true)(h2:a ρ=o):gc c a b ρ=o:=by
 unfold gc
 rw[h]
 exact h2
theorem cw{c:DT}{a b:DS}{ρ:a5}{o:M Out}(h:c ρ=M.ret false)(h2:b ρ=o):gc c a b ρ=o:=by
 unfold gc
 rw[h]
 exact h2
theorem aD{δ:DE}{ρ:a5}{d:D}(h:δ ρ=M.ret d):ba δ ρ=M.ret (.rt d):=by
 unfold ba
 rw[h]
 rfl
theorem bM{δ:DE}{ρ:a5}{d:D}(h:δ ρ=M.ret d):g7 δ ρ=M.ret (.nx ρ):=by
 unfold g7
 rw[h]
 rfl
theorem aS{n:Nat}{τ:DS}{ds:List D}{d:D}(h:τ (ds.map (fun d=>some (Sl.fz d))++List.replicate (n - ds.length) none)=M.ret (.rt d)):bO n τ ds=M.ret d:=by
 unfold bO
 rw[h]
 rfl
theorem nB{n:Nat}{τ:DS}{ds:List D}{ρ:a5}(h:τ (ds.map (fun d=>some (Sl.fz d))++List.replicate (n - ds.length) none)=M.ret (.nx ρ)):bO n τ ds=M.ret .non:=by
 unfold bO
 rw[h]
 rfl
theorem C5{put:D→a5→Option a5}{δi:DA}{b:DS}{ρ:a5}{ds:List D}{o:Out}(h:δi ρ=M.ret ds)(h2:forL put b ds ρ=M.ret o):noex (eD put δi b ρ)=M.ret o:=by
 unfold eD
 rw[h,au,h2]
 rfl
theorem bp{is:List Nat}{τ:DS}{ρ ρ':a5}(h:τ ρ=M.ret (.nx ρ')):cI is τ ρ=M.ret (.nx (fgt is ρ')):=by
 unfold cI
 rw[h]
 rfl
theorem bL{n:Nat}{δi:DA}{δt:DT}{δe:DE}{ρ:a5}{ds ys:List D}(h:δi ρ=M.ret ds)(h2:di (gu n δt δe ρ) ds=M.ret ys)(h3:ys.length≤lim):bw n δi δt δe ρ=M.ret (.lst ys):=by
 unfold bw
 rw[h,au,h2,B9,au,B2 h3]
theorem lV{n:Nat}(h:n≤4096):iV [.int (n:Int)]=M.ret (gH 0 n):=by
 show (if -4096≤(n:Int)∧(n:Int)≤4096 then M.ret (gH 0 (n:Int).toNat) else M.stuck)=_
 rw[if_pos ⟨by omega,by omega⟩]
 rfl
structure Alpha (al:Str):Prop where
 pos:0<al.length
 ok:∀c∈al.cps.toList,lE c
theorem GG:Alpha "ab"∧Alpha "abc"∧Alpha "aab"∧Alpha "fa":=by
 refine⟨⟨by decide+kernel,?_⟩,⟨by decide+kernel,?_⟩,⟨by decide+kernel,?_⟩,⟨by decide+kernel,?_⟩⟩<;>decide+kernel
theorem Br{x:Str}{i:Nat}(h:i<x.length):∃c,c∈x.cps.toList∧x.cps.toList[i]? =some c∧su (.str x) (.int (i:Int))=M.ret (.str ⟨#[c]⟩):=by
 have h:i<x.cps.toList.length:=by rw[Array.length_toList];exact h
 refine⟨x.cps.toList[i],List.getElem_mem h,List.getElem?_eq_getElem h,?_⟩
 show (match L2.atI x.cps.toList (i:Int) with | some c=>M.ret (D.str ⟨#[c]⟩) | none=>M.stuck)=_
 rw[dW (List.getElem?_eq_getElem h)]
abbrev brd(bd:List Str):D:= .tup (bd.map D.str)
abbrev sgn(at' mo:Nat)(ns:List Int)(W:Nat)(al:Str)(bd:List Str)(R:Nat)(x7 x8:Option Sl):a5:=[fz (.scr ns),fz (.int (at':Int)),fz (.int (mo:Int)),fz (.int (R:Int)),fz (.int (W:Int)),fz (.str al),fz (brd bd),x7,x8]
def OS:DE:=bw 0 (fun ρ=>(aC (dV 4) aN) ρ>>=iV) b_ (d2 su (dV 6) (ak 3 aH (aC (dV 1) (aC (d2 c6 (d2 c6 (d2 c6 (dV 2) (dC (.int 3))) (d2 iA (dC (.int 7)) (dV 8))) (dV 0)) (aC (dA bb (aC (dV 6) aN)) aN)))))
theorem Ay(at' mo:Nat)(ns:List Int)(hl:ns.length≤63)(al:Str)(ha:Alpha al)(j W R:Nat)(hW:W≤5)(bd:List Str)(x8:Option Sl):
 ∃ys,OS (sgn at' mo ns W al bd R (fz (.int (0+(j:Int)))) x8)=M.ret (.lst ys)∧ys.length=W∧∀y∈ys,∃c,y= .str ⟨#[c]⟩∧lE c:=by
 obtain⟨ys,e,Ge,hp⟩:=qC (f:=gu 0 b_ (d2 su (dV 6) (ak 3 aH (aC (dV 1) (aC (d2 c6 (d2 c6 (d2 c6 (dV 2) (dC (.int 3))) (d2 iA (dC (.int 7)) (dV 8))) (dV 0)) (aC (dA bb (aC (dV 6) aN)) aN)))))
  (sgn at' mo ns W al bd R (fz (.int (0+(j:Int)))) x8)) (Pr:=fun y=>∃c,y= .str ⟨#[c]⟩∧lE c) (gH 0 W) fun d hd=>by
  obtain⟨i,hi,rfl⟩:=C3 hd
  obtain⟨v,hv,e⟩:=fk ns hl (at'+3+7*j+i) al.length ha.pos
  obtain⟨c,hc,_,e2⟩:=Br hv
  refine⟨.str ⟨#[c]⟩,?_,c,rfl,ha.ok c hc⟩
  rw[ix]
  have k:(at':Int)+3+7*(0+(j:Int))+(0+(i:Int))=((at'+3+7*j+i:Nat):Int):=by omega
  have m1:iA (.int 7) (.int (0+(j:Int)))=M.ret (.int (7*(0+(j:Int)))):=gz (.inl ⟨by decide,by decide⟩)
  simp only[ak,d2,dV,dC,dA,aC,aN,au,List.length_cons,List.length_nil,List.getElem?_cons_zero,List.getElem?_cons_succ,Nat.reduceAdd,if_true,gx,m1,k,bb,e,e2]
 refine⟨ys,bL (lV (n:=W) (by omega)) e (by rw[Ge,iU,dh];omega),by rw[Ge,iU],hp⟩
def OT:DS:=bD 6 (d2 uX (dV 6) (dA dq (aC (dM sG joinM (dC (.str "")) (aC (dV 8) aN)) aN)))
theorem DV(at' mo:Nat)(ns:List Int)(W:Nat)(al:Str)(bd:List Str)(R:Nat)(x7:Option Sl)(ys:List D)(hb:bd.length≤5)(hy:ys.length≤5)(s3:∀y∈ys,∃c,y= .str ⟨#[c]⟩∧lE c):
 ∃r,(Row ys.length r∧Lb r)∧OT (sgn at' mo ns W al bd R x7 (fz (.lst ys)))=M.ret (.nx (sgn at' mo ns W al (bd++[r]) R x7 (fz (.lst ys)))):=by
 obtain⟨xs,t1,t2,t3,t4⟩:=wb ys s3
 refine⟨dg xs,t4,?_⟩
 have jn:joinM (.str "") [.lst ys]=M.ret (.str (dg xs)):=by
  show (match h9 ys with | some (xs:List Str)=>if ("":Str).length=0∧(xs.map (fun x:Str=>x.length)).sum≤lim then M.ret (D.str (dg xs)) else M.stuck | none=>M.stuck)=_
  rw[t1]
  show (if ("":Str).length=0∧(xs.map (fun x:Str=>x.length)).sum≤lim then M.ret (D.str (dg xs)) else M.stuck)=_
  rw[if_pos ⟨rfl,by rw[t3,dh];omega⟩]
 have ct:uX (brd bd) (.tup [.str (dg xs)])=M.ret (brd (bd++[dg xs])):=by
  show (if (bd.map D.str).length+1≤lim then M.ret (D.tup (bd.map D.str++[.str (dg xs)])) else M.stuck)=_
  rw[if_pos (by rw[List.length_map,dh];omega)]
  simp[brd]
 refine(aI (d:=brd (bd++[dg xs])) ?_).trans rfl
 simp only[d2,dV,dC,dA,aC,aN,dM,sG,au,List.getElem?_cons_zero,List.getElem?_cons_succ,if_true,jn,dq,List.length_cons,List.length_nil,dh,Nat.reduceAdd,Nat.reduceLeDiff,ct]
theorem wJ(ns:List Int)(hl:ns.length≤63)(at' mo:Nat)(m0:0<mo)(m5:mo≤5):∃bd W,Good bd W∧(∀r∈bd,Lb r)∧bd.length≤mo∧W≤mo∧eN [.scr ns, .int (at':Int), .int (mo:Int)]=M.ret (brd bd):=by
 obtain⟨r,hr,e1⟩:=fk ns hl at' mo m0
 obtain⟨c,hc,e2⟩:=fk ns hl (at'+1) mo m0
 obtain⟨a,ha,e3⟩:=fk ns hl (at'+2) 4 (by decide)
 obtain⟨al,Jx,e4⟩:∃al,Alpha al∧c7 (.lst [.str "ab", .str "abc", .str "aab", .str "fa"]) (.int (a:Int))=M.ret (.str al):=by
  obtain⟨a1,a2,a3,a4⟩:=GG
  match a,ha with
  |0,_=>exact⟨_,a1,rfl⟩
  |1,_=>exact⟨_,a2,rfl⟩
  |2,_=>exact⟨_,a3,rfl⟩
  |3,_=>exact⟨_,a4,rfl⟩
 have k1:(1:Int)+(r:Int)=((r+1:Nat):Int):=by omega
 have k2:(1:Int)+(c:Int)=((c+1:Nat):Int):=by omega
 have AM:aH [.scr ns, .int (at':Int), .int (mo:Int)]=M.ret (.int (r:Int)):=e1
 have IH:aH [.scr ns, .int ((at':Int)+1), .int (mo:Int)]=M.ret (.int (c:Int)):=e2
 have Lg:aH [.scr ns, .int ((at':Int)+2), .int 4]=M.ret (.int (a:Int)):=e3
 obtain⟨ρ',f1,bd,f2,f3,f4⟩:=uV (put:=putN 7) (body:=cI [7,8] (aA (bD 8 OS) OT))
  (I:=fun i ρ=>∃bd,ρ=sgn at' mo ns (c+1) al bd (r+1) none none∧bd.length=i∧∀z∈bd,Row (c+1) z∧Lb z)
  (gH 0 (r+1)) 0 (sgn at' mo ns (c+1) al [] (r+1) none none) ⟨[],rfl,rfl,fun _ h=>by cases h⟩ fun j d hd ρ ⟨bd,hρ,hb,hw⟩=>by
   obtain⟨hj,rfl⟩:=Fo hd
   subst hρ
   obtain⟨ys,s1,s2,s3⟩:=Ay at' mo ns hl al Jx j (c+1) (r+1) (by omega) bd none
   obtain⟨wD,t1,t2⟩:=DV at' mo ns (c+1) al bd (r+1) (fz (.int (0+(j:Int)))) ys (by omega) (by omega) s3
   refine⟨_,_,rfl,bp (ao (aI s1) t2),bd++[wD],rfl,by simp[hb],fun z hz=>?_⟩
   rcases List.mem_append.mp hz with h | h
   ·exact hw z h
   ·have h:z=wD:=by simpa using h
    subst h
    rw[s2] at t1
    exact t1
 refine⟨bd,c+1,⟨by rw[f3,iU];omega,by rw[f3,iU];omega,by omega,by omega,fun r q=>(f4 r q).1⟩,fun r q=>(f4 r q).2,by rw[f3,iU];omega,by omega,?_⟩
 subst f2
 refine aS ?_
 refine ao (aI (d:= .int ((r+1:Nat):Int)) ?_) ?_
 ·simp only[ak,d2,dV,dC,aC,aN,au,List.map_cons,List.map_nil,List.cons_append,List.nil_append,List.length_cons,List.length_nil,List.getElem?_cons_zero,List.getElem?_cons_succ,Nat.reduceAdd,if_true,gx,AM,k1]
 refine ao (aI (d:= .int ((c+1:Nat):Int)) ?_) ?_
 ·simp only[ak,d2,dV,dC,aC,aN,au,List.map_cons,List.map_nil,List.cons_append,List.nil_append,List.length_cons,List.length_nil,List.replicate,List.set_cons_zero,List.set_cons_succ,Nat.reduceSub,List.getElem?_cons_zero,List.getElem?_cons_succ,Nat.reduceAdd,if_true,gx,IH,k2]
 refine ao (aI (d:= .str al) ?_) ?_
 ·simp only[ak,d2,dV,dC,dA,aC,aN,au,List.map_cons,List.map_nil,List.cons_append,List.nil_append,List.length_cons,List.length_nil,List.replicate,List.set_cons_zero,List.set_cons_succ,Nat.reduceSub,List.getElem?_cons_zero,List.getElem?_cons_succ,Nat.reduceAdd,if_true,gx,Lg,fW,dh,Nat.reduceLeDiff,e4]
 refine ao (aI (d:= .tup []) rfl) ?_
 refine ao (C5 (lV (n:=r+1) (by omega)) f1) ?_
 exact aD rfl
def Plain:D→Prop
 | .non | .bl _ | .int _ | .str _ | .tup _ | .lst _=>True
 |_=>False
def isStr:D→Bool
 | .str _=>true
 |_=>false
def isTup:D→Bool
 | .tup _=>true
 |_=>false
theorem fV{d:D}(h:Plain d):ij [d, .raw (.ty "str")]=M.ret (.bl (isStr d)):=by
 cases d<;>first | rfl | exact h.elim
theorem nv{d:D}(h:Plain d):ij [d, .raw (.ty "tuple")]=M.ret (.bl (isTup d)):=by
 cases d<;>first | rfl | exact h.elim
def sI:D→Bool
 | .str x=>(x.length==1)&&Gh x
 |_=>false
theorem jQ{ρ:a5}{i:Nat}{d:D}(h:ρ[i]? =some (fz d)):dV i ρ=M.ret d:=by
 unfold dV
 rw[h]
theorem eq_int(i j:Int):nu (.int i) (.int j)=M.ret (.bl (i==j)):=rfl
theorem ne_int(i j:Int):qJ (.int i) (.int j)=M.ret (.bl (!(i==j))):=rfl
theorem len_str(x:Str):bb [.str x]=M.ret (.int (x.length:Int)):=rfl
theorem in_str(x:Str):p5 false (.str x) (.str "abcdef")=M.ret (.bl (Gh x)):=rfl
theorem rb(a b:Nat):((a:Int)==(b:Int))=(a==b):=by
 by_cases h:a=b
 ·subst h;simp
 ·have h2:¬(a:Int)=(b:Int):=by omega
  rw[beq_eq_false_iff_ne.mpr h,beq_eq_false_iff_ne.mpr h2]
theorem Ew{d:D}(h:Plain d){i:Nat}{ρ:a5}(hρ:ρ[i]? =some (fz d)):
 fw (dA ij (aC (dV i) (aC (dC (.raw (.ty "str"))) aN))) (fw (d2 nu (dA bb (aC (dV i) aN)) (dC (.int 1))) (d2 (p5 false) (dV i) (dC (.str "abcdef")))) ρ=M.ret (.bl (sI d)):=by
 have hv:=jQ hρ
 have e1:=rb
 cases d with
 |str x=>
  have k:((x.length:Int)==1)=(x.length==1):=rb x.length 1
  simp only[fw,dA,aC,aN,dC,d2,hv,au,fV h,isStr,AL,if_true,len_str,eq_int,k,in_str,sI]
  cases x.length==1<;>rfl
 |non=>simp only[fw,dA,aC,aN,dC,d2,hv,au,fV h,isStr,AL,if_false,Bool.false_eq_true,sI]
 |bl b=>simp only[fw,dA,aC,aN,dC,d2,hv,au,fV h,isStr,AL,if_false,Bool.false_eq_true,sI]
 |int b=>simp only[fw,dA,aC,aN,dC,d2,hv,au,fV h,isStr,AL,if_false,Bool.false_eq_true,sI]
 |tup b=>simp only[fw,dA,aC,aN,dC,d2,hv,au,fV h,isStr,AL,if_false,Bool.false_eq_true,sI]
 |lst b=>simp only[fw,dA,aC,aN,dC,d2,hv,au,fV h,isStr,AL,if_false,Bool.false_eq_true,sI]
 |raw _=>exact h.elim
 |exc _=>exact h.elim
 |scr _=>exact h.elim
 |dct _ _=>exact h.elim
 |dci _ _=>exact h.elim
theorem p7{d:D}(h:Plain d):cW [d]=M.ret (.bl (sI d)):=aS (aD (Ew h rfl))
def ji(x:Str):Bool:=x.cps.toList.all fun c=>Gh ⟨#[c]⟩
def m_:D→Bool
 | .str x=>(decide (1≤x.length)&&decide (x.length≤8))&&ji x
 |_=>false
theorem zp(l:List Bool):bools (l.map D.bl)=some l:=by
 induction l with
 |nil=>rfl
 |cons b r ih=>show (bools (r.map D.bl)).map _=_;rw[ih];rfl
theorem all_map(l:List Bool):allM [.lst (l.map D.bl)]=M.ret (.bl (l.all id)):=by
 show (match bools (l.map D.bl) with | some bs=>M.ret (D.bl (bs.all id)) | none=>M.stuck)=_
 rw[zp]
theorem A2{δ:DE}{ρ:a5}{n:Nat}(h:δ ρ=M.ret (.int (n:Int))):
 bS (uF (fun i j=>decide (i≤j)) (fun i j=>decide (i≤j)) (dC (.int 1)) δ (dC (.int 8))) ρ=M.ret (decide (1≤n)&&decide (n≤8)):=by
 have k1:decide ((1:Int)≤(n:Int))=decide (1≤n):=by by_cases h:1≤n<;>simp[h]<;>omega
 have k2:decide ((n:Int)≤8)=decide (n≤8):=by by_cases h:n≤8<;>simp[h]<;>omega
 simp only[bS,uF,dC,h,au,k1,k2,gI,AL]
 cases decide (1≤n)<;>rfl
theorem xc{d:D}(h:Plain d):fB [d]=M.ret (.bl (m_ d)):=by
 refine aS ?_
 have hρ:([d].map (fun d=>some (Sl.fz d))++List.replicate (1 - [d].length) none)=[fz d]:=rfl
 rw[hρ]
 have hv:dV 0 [fz d]=M.ret d:=rfl
 have no:isStr d=false→wq [fz d]=M.ret (.rt (.bl false)):=fun hs=>by
  refine dI (eU ?_ (aD rfl))
  simp only[jP,cH,cx,dA,aC,aN,dC,hv,au,fV h,hs,wa,Bool.not_false,if_true]
 cases d with
 |str x=>
  have hi:cx (dA ij (aC (dV 0) (aC (dC (.raw (.ty "str"))) aN))) [fz (.str x)]=M.ret true:=by
   simp only[cx,dA,aC,aN,dC,hv,au,fV h,isStr,wa]
  have hl:dA bb (aC (dV 0) aN) [fz (.str x)]=M.ret (.int (x.length:Int)):=rfl
  have hc:=A2 hl
  by_cases hr:(decide (1≤x.length)&&decide (x.length≤8))=true
  ·rw[hr] at hc
   refine ao (cw ?_ (ρ:=[fz (.str x)]) rfl) (aD ?_)
   ·unfold jP cH
    rw[hi,au,au,hc]
    rfl
   ·have hb:x.length≤8:=by simp only[Bool.and_eq_true,decide_eq_true_eq] at hr;exact hr.2
    have cm:bw 0 (fun ρ=>(dV 0) ρ>>=Fx) b_ (ak 1 cW (aC (dV 0) aN)) [fz (.str x)]=M.ret (.lst ((x.cps.toList.map fun c=>Gh ⟨#[c]⟩).map D.bl)):=by
     refine bL (ds:=signs x) rfl ?_ ?_
     ·have:=gw (f:=gu 0 b_ (ak 1 cW (aC (dV 0) aN)) [fz (.str x)]) (g:=fun d=>D.bl (sI d)) (signs x) fun d hd=>by
       rw[ix]
       obtain⟨c,_,rfl⟩:=List.mem_map.mp hd
       show (cW [.str ⟨#[c]⟩]>>=fun y=>M.ret (some y))=_
       rw[p7 (d:= .str ⟨#[c]⟩) trivial]
       rfl
      rw[this]
      unfold signs
      rw[List.map_map,List.map_map]
      congr 1
     ·rw[List.length_map,List.length_map,Array.length_toList,dh]
      exact Nat.le_trans hb (by decide)
    rw[bQ (aK cm rfl),all_map]
    show M.ret (D.bl ((x.cps.toList.map fun c=>Gh ⟨#[c]⟩).all id))=M.ret (D.bl ((decide (1≤x.length)&&decide (x.length≤8))&&ji x))
    rw[hr]
    unfold ji
    rw[List.all_map]
    rfl
  ·have hr:(decide (1≤x.length)&&decide (x.length≤8))=false:=by simpa using hr
   rw[hr] at hc
   have:m_ (.str x)=false:=by
    show ((decide (1≤x.length)&&decide (x.length≤8))&&ji x)=false
    rw[hr];rfl
   rw[this]
   refine dI (eU ?_ (aD rfl))
   unfold jP cH
   rw[hi,au,au,hc]
   rfl
 |non=>exact no rfl
 |bl b=>exact no rfl
 |int b=>exact no rfl
 |tup b=>exact no rfl
 |lst b=>exact no rfl
 |raw _=>exact h.elim
 |exc _=>exact h.elim
 |scr _=>exact h.elim
 |dct _ _=>exact h.elim
 |dci _ _=>exact h.elim
def jV:D→Nat
 | .str x=>x.length
 |_=>0
def nM:D→Bool
 | .tup ds=>(decide (1≤ds.length)&&decide (ds.length≤8))&&(ds.all m_&&ds.all fun d=>jV d==jV (ds.headD .non))
 |_=>false
def Plain2:D→Prop
 | .tup ds=>∀d∈ds,Plain d
 |d=>Plain d
theorem Plain2.plain{d:D}(h:Plain2 d):Plain d:=by
 cases d<;>first | exact h | exact trivial
theorem Et{ds:List D}:bb [.tup ds]=M.ret (.int (ds.length:Int)):=rfl
theorem M4{ds:List D}{d:D}{r:List D}(h:ds=d::r):bq (.tup ds) (.int 0)=M.ret d:=by
 subst h
 show (match L2.atI (d::r) ((0:Nat):Int) with | some d=>M.ret d | none=>M.stuck)=_
 rw[dW (x:=d) rfl]
theorem Fq{d:D}(h:m_ d=true):∃x,d= .str x:=by
 cases d<;>first | exact⟨_,rfl⟩ | cases h
theorem zG{d:D}(h:Plain d):jP (cH (cx (dA ij (aC (dV 0) (aC (dC (.raw (.ty "tuple"))) aN))))) (cH (bS (uF (fun i j=>decide (i≤j)) (fun i j=>decide (i≤j)) (dC (.int 1)) (dA bb (aC (dV 0) aN)) (dC (.int 8))))) [fz d]=
 M.ret (match d with | .tup ds=>!(decide (1≤ds.length)&&decide (ds.length≤8)) | _=>true):=by
 have hv:dV 0 [fz d]=M.ret d:=rfl
 have no:isTup d=false→jP (cH (cx (dA ij (aC (dV 0) (aC (dC (.raw (.ty "tuple"))) aN))))) (cH (bS (uF (fun i j=>decide (i≤j)) (fun i j=>decide (i≤j)) (dC (.int 1)) (dA bb (aC (dV 0) aN)) (dC (.int 8))))) [fz d]=M.ret true:=fun hs=>by
  simp only[jP,cH,cx,dA,aC,aN,dC,hv,au,nv h,hs,wa,Bool.not_false,if_true]
 cases d with
 |tup ds=>
  have hi:cx (dA ij (aC (dV 0) (aC (dC (.raw (.ty "tuple"))) aN))) [fz (.tup ds)]=M.ret true:=by
   simp only[cx,dA,aC,aN,dC,hv,au,nv h,isTup,wa]
  have hl:dA bb (aC (dV 0) aN) [fz (.tup ds)]=M.ret (.int (ds.length:Int)):=rfl
  unfold jP cH
  rw[hi,au,au,A2 hl]
  rfl
 |non=>exact no rfl
 |bl b=>exact no rfl
 |int b=>exact no rfl
 |str b=>exact no rfl
 |lst b=>exact no rfl
 |raw _=>exact h.elim
 |exc _=>exact h.elim
 |scr _=>exact h.elim
 |dct _ _=>exact h.elim
 |dci _ _=>exact h.elim
theorem all_rows{ds:List D}(h:∀d∈ds,Plain d)(hl:ds.length≤8):dA allM (aC (bw 0 (wU (dV 0)) b_ (ak 1 fB (aC (dV 0) aN))) aN) [fz (.tup ds)]=M.ret (.bl (ds.all m_)):=by
 have cm:bw 0 (wU (dV 0)) b_ (ak 1 fB (aC (dV 0) aN)) [fz (.tup ds)]=M.ret (.lst ((ds.map m_).map D.bl)):=by
  refine bL (ds:=ds) rfl ?_ (by rw[List.length_map,List.length_map,dh];omega)
  rw[List.map_map]
  refine gw (g:=D.bl∘m_) ds fun d hd=>?_
  rw[ix]
  show (fB [d]>>=fun y=>M.ret (some y))=_
  rw[xc (h d hd)]
  rfl
 rw[bQ (aK cm rfl),all_map,List.all_map]
 rfl
theorem all_lens{ds:List D}(hs:∀d∈ds,∃x,d= .str x)(h0:1≤ds.length)(hl:ds.length≤8):
 dA allM (aC (bw 0 (wU (dV 0)) b_ (d2 nu (dA bb (aC (dV 0) aN)) (dA bb (aC (d2 bq (dV 1) (dC (.int 0))) aN)))) aN) [fz (.tup ds)]=M.ret (.bl (ds.all fun d=>jV d==jV (ds.headD .non))):=by
 obtain⟨d0,r,e0⟩:∃d0 r,ds=d0::r:=by
  cases ds with
  |nil=>simp at h0
  |cons a r=>exact⟨a,r,rfl⟩
 have hh:ds.headD .non=d0:=by rw[e0];rfl
 obtain⟨x0,Ov⟩:=hs d0 (by rw[e0];exact List.mem_cons_self ..)
 have cm:bw 0 (wU (dV 0)) b_ (d2 nu (dA bb (aC (dV 0) aN)) (dA bb (aC (d2 bq (dV 1) (dC (.int 0))) aN))) [fz (.tup ds)]=M.ret (.lst ((ds.map fun d=>jV d==jV (ds.headD .non)).map D.bl)):=by
  refine bL (ds:=ds) rfl ?_ (by rw[List.length_map,List.length_map,dh];omega)
  rw[List.map_map]
  refine gw (g:=D.bl∘fun d=>jV d==jV (ds.headD .non)) ds fun d hd=>?_
  rw[ix]
  obtain⟨x,rfl⟩:=hs d hd
  have k:((x.length:Int)==(x0.length:Int))=(x.length==x0.length):=rb _ _
  have i0:bq (.tup ds) (.int 0)=M.ret (.str x0):=by rw[M4 e0,Ov]
  have PF:ds.headD .non= .str x0:=by rw[hh,Ov]
  simp only[d2,dA,aC,aN,dC,dV,au,List.getElem?_cons_zero,List.getElem?_cons_succ,len_str,i0,eq_int,k,Function.comp,jV,PF]
 rw[bQ (aK cm rfl),all_map,List.all_map]
 rfl
theorem sH{d:D}(h:Plain2 d):gO [d]=M.ret (.bl (nM d)):=by
 refine aS ?_
 have hρ:([d].map (fun d=>some (Sl.fz d))++List.replicate (1 - [d].length) none)=[fz d]:=rfl
 rw[hρ]
 have hf:=zG h.plain
 have no:(∀ds,d≠ .tup ds)→pN [fz d]=M.ret (.rt (.bl (nM d))):=fun hn=>by
  cases d<;>first | exact absurd rfl (hn _) | exact dI (eU hf (aD rfl))
 cases d with
 |tup ds=>
  have hf:_=M.ret (!(decide (1≤ds.length)&&decide (ds.length≤8))):=hf
  by_cases hr:(decide (1≤ds.length)&&decide (ds.length≤8))=true
  ·rw[hr] at hf
   have hb:=hr
   simp only[Bool.and_eq_true,decide_eq_true_eq] at hb
   have e:nM (.tup ds)=(ds.all m_&&ds.all fun d=>jV d==jV (ds.headD .non)):=by
    show ((decide (1≤ds.length)&&decide (ds.length≤8))&&_)=_
    rw[hr,Bool.true_and]
   rw[e]
   have a1:=all_rows h hb.2
   refine ao (cw hf rfl) ?_
   cases hc:ds.all m_ with
   |false=>
    rw[hc] at a1
    refine dI (eU ?_ (aD rfl))
    unfold cH cx
    rw[a1]
    rfl
   |true=>
    rw[hc] at a1
    refine ao (cw ?_ rfl) (aD ?_)
    ·unfold cH cx
     rw[a1]
     rfl
    ·rw[Bool.true_and]
     exact all_lens (fun d hd=>Fq (List.all_eq_true.mp hc d hd)) hb.1 hb.2
  ·have hr:(decide (1≤ds.length)&&decide (ds.length≤8))=false:=by simpa using hr
   rw[hr] at hf
   have e:nM (.tup ds)=false:=by
    show ((decide (1≤ds.length)&&decide (ds.length≤8))&&_)=_
    rw[hr];rfl
   rw[e]
   exact dI (eU hf (aD rfl))
 |non=>exact no fun _ z=>by cases z
 |bl b=>exact no fun _ z=>by cases z
 |int b=>exact no fun _ z=>by cases z
 |str b=>exact no fun _ z=>by cases z
 |lst b=>exact no fun _ z=>by cases z
 |raw _=>exact h.elim
 |exc _=>exact h.elim
 |scr _=>exact h.elim
 |dct _ _=>exact h.elim
 |dci _ _=>exact h.elim
structure Brd (ob:List Str) (V:Nat):Prop where
 r1:1≤ob.length
 r8:ob.length≤8
 w1:1≤V
 w8:V≤8
 rows:∀r∈ob,Row V r
theorem Good.brd{bd:List Str}{W:Nat}(hg:Good bd W):Brd bd W:=⟨hg.r1,by have:=hg.r5;omega,hg.w1,by have:=hg.w5;omega,hg.rows⟩
theorem Brd.board{ob:List Str}{V:Nat}(h:Brd ob V):nM (brd ob)=true:=by
 have MK:∀r∈ob,m_ (.str r)=true:=fun r hr=>by
  have q:=h.rows r hr
  show ((decide (1≤r.length)&&decide (r.length≤8))&&ji r)=true
  rw[q.len]
  have a:decide (1≤V)=true:=decide_eq_true h.w1
  have b:decide (V≤8)=true:=decide_eq_true h.w8
  rw[a,b]
  show ji r=true
  exact List.all_eq_true.mpr fun c hc=>q.let' c hc
 have h0:jV ((ob.map D.str).headD .non)=V:=by
  have:=h.r1
  have hr:=h.rows
  cases ob with
  |nil=>simp at this
  |cons x l=>exact(hr x (List.mem_cons_self ..)).len
 show ((decide (1≤(ob.map D.str).length)&&decide ((ob.map D.str).length≤8))&&((ob.map D.str).all m_&&(ob.map D.str).all fun d=>jV d==jV ((ob.map D.str).headD .non)))=true
 rw[h0,List.length_map,decide_eq_true h.r1,decide_eq_true h.r8]
 have a:(ob.map D.str).all m_=true:=List.all_eq_true.mpr fun d hd=>by
  obtain⟨r,hr,rfl⟩:=List.mem_map.mp hd
  exact MK r hr
 have b:((ob.map D.str).all fun d=>jV d==V)=true:=List.all_eq_true.mpr fun d hd=>by
  obtain⟨r,hr,rfl⟩:=List.mem_map.mp hd
  show (r.length==V)=true
  rw[(h.rows r hr).len]
  simp
 rw[a,b]
 rfl
theorem zq{bd:List Str}:Plain2 (brd bd):=fun d hd=>by
 obtain⟨r,_,rfl⟩:=List.mem_map.mp hd
 trivial
theorem nU{δ:DE}{ρ:a5}{b:Bool}(h:δ ρ=M.ret (.bl b)):cx δ ρ=M.ret b:=by
 unfold cx
 rw[h]
 rfl
theorem ej{δ:DE}{ρ:a5}{b:Bool}(h:δ ρ=M.ret (.bl b)):bS δ ρ=M.ret b:=by
 unfold bS
 rw[h]
 rfl
theorem lq{τ:DT}{ρ:a5}{b:Bool}(h:τ ρ=M.ret b):cH τ ρ=M.ret (!b):=by
 unfold cH
 rw[h]
 rfl
theorem nT{a c:DT}{ρ:a5}{p q:Bool}(h1:a ρ=M.ret p)(h2:c ρ=M.ret q):jP a c ρ=M.ret (p||q):=by
 unfold jP
 rw[h1,au]
 cases p
 ·exact h2
 ·rfl
theorem wR{a c:DT}{ρ:a5}{p q:Bool}(h1:a ρ=M.ret p)(h2:c ρ=M.ret q):pY a c ρ=M.ret (p&&q):=by
 unfold pY
 rw[h1,au]
 cases p
 ·rfl
 ·exact h2
theorem A8{a c:DT}{ρ:a5}(h1:a ρ=M.ret false):pY a c ρ=M.ret false:=by
 unfold pY
 rw[h1]
 rfl
theorem Jg{c:DT}{a b:DE}{ρ:a5}{p:Bool}(h:c ρ=M.ret p):FR c a b ρ=if p then a ρ else b ρ:=by
 unfold FR
 rw[h]
 rfl
theorem Brd.nb{ob:List Str}{V:Nat}(h:Brd ob V):aV [brd ob]=M.ret .non:=by
 refine nB (ρ:=[fz (brd ob)]) (cw (lq (nU (b:=true) ?_)) rfl)
 refine(ah (ds:=[brd ob]) rfl rfl).trans ?_
 rw[sH zq,h.board]
theorem Brd.len0{ob:List Str}{V:Nat}(h:Brd ob V){i:Nat}{ρ:a5}(hρ:ρ[i]? =some (fz (brd ob))):dA bb (aC (d2 bq (dV i) (dC (.int 0))) aN) ρ=M.ret (.int (V:Int)):=by
 have h1:=h.r1
 have hr:=h.rows
 obtain⟨x,l,e⟩:∃x l,ob=x::l:=by
  cases ob with
  |nil=>simp at h1
  |cons x l=>exact⟨x,l,rfl⟩
 have hx:x.length=V:=(hr x (by rw[e];exact List.mem_cons_self ..)).len
 have i0:bq (brd ob) (.int 0)=M.ret (.str x):=M4 (show ob.map D.str=D.str x::l.map D.str by rw[e];rfl)
 have k:=aF (g:=bq) (jQ hρ) (show dC (.int 0) ρ=M.ret (.int 0) from rfl)
 rw[i0] at k
 rw[bQ (aK (xs:=[]) k rfl)]
 show M.ret (D.int (x.length:Int))=_
 rw[hx]
theorem Hw{bd:List Str}{i:Nat}{ρ:a5}(hρ:ρ[i]? =some (fz (brd bd))):dA bb (aC (dV i) aN) ρ=M.ret (.int (bd.length:Int)):=by
 have:bb [brd bd]=M.ret (.int (bd.length:Int)):=by
  show M.ret (D.int ((bd.map D.str).length:Int))=_
  rw[List.length_map]
 simp only[dA,aC,aN,jQ hρ,au,this]
def ib:D→Bool
 | .int _=>true
 |_=>false
theorem jt{d:D}(h:Plain d):aW [d]=M.ret (.bl (ib d)):=by
 cases d<;>first | rfl | exact h.elim
def Ja(R W:Nat):D→D→Bool
 | .int a, .int b=>(decide (0≤a)&&decide (a<(R:Int)))&&(decide (0≤b)&&decide (b<(W:Int)))
 |_,_=>false
def FQ(R W:Nat):D→Bool
 | .tup [u,v]=>Ja R W u v
 |_=>false
theorem Jc{δ ε:DE}{ρ:a5}{i n:Int}(h:δ ρ=M.ret (.int i))(h2:ε ρ=M.ret (.int n)):
 uF (fun i j=>decide (i≤j)) (fun i j=>decide (i<j)) (dC (.int 0)) δ ε ρ=M.ret (.bl (decide (0≤i)&&decide (i<n))):=by
 simp only[uF,dC,h,h2,au,gI]
 cases decide (0≤i)<;>rfl
theorem u_{bd:List Str}{W:Nat}(hg:Brd bd W){d:D}(h:Plain2 d):jf [brd bd,d]=M.ret (.bl (FQ bd.length W d)):=by
 refine aS ?_
 have hρ:([brd bd,d].map (fun d=>some (Sl.fz d))++List.replicate (2 - [brd bd,d].length) none)=[fz (brd bd),fz d]:=rfl
 rw[hρ]
 have hv:dV 1 [fz (brd bd),fz d]=M.ret d:=rfl
 have no:isTup d=false→rW [fz (brd bd),fz d]=M.ret (.rt (.bl false)):=fun hs=>by
  refine dI (eU ?_ (aD rfl))
  simp only[jP,cH,cx,dA,aC,aN,dC,hv,au,nv h.plain,hs,wa,Bool.not_false,if_true]
 cases d with
 |tup ds=>
  have hi:cH (cx (dA ij (aC (dV 1) (aC (dC (.raw (.ty "tuple"))) aN)))) [fz (brd bd),fz (.tup ds)]=M.ret false:=by
   simp only[cH,cx,dA,aC,aN,dC,hv,au,nv h.plain,isTup,wa,Bool.not_true]
  have k:((ds.length:Int)==2)=(ds.length==2):=rb ds.length 2
  have hl:jP (cH (cx (dA ij (aC (dV 1) (aC (dC (.raw (.ty "tuple"))) aN))))) (bS (d2 qJ (dA bb (aC (dV 1) aN)) (dC (.int 2)))) [fz (brd bd),fz (.tup ds)]=M.ret (!(ds.length==2)):=by
   unfold jP
   rw[hi]
   simp only[bS,d2,dA,aC,aN,dC,hv,au,Et,ne_int,k,AL,Bool.false_eq_true,if_false]
  match ds,h,hl with
  |[],h,hl=>exact dI (eU hl (aD rfl))
  |[_],h,hl=>exact dI (eU hl (aD rfl))
  |_::_::_::_,h,hl=>
   refine dI (eU (hl.trans ?_) (aD rfl))
   simp
  |[u,v],h,hl=>
   refine ao (cw hl rfl) ?_
   have pu:Plain u:=h u (by simp)
   have pv:Plain v:=h v (by simp)
   have w1:ak 1 aW (aC (d2 bq (dV 1) (dC (.int 0))) aN) [fz (brd bd),fz (.tup [u,v])]=M.ret (.bl (ib u)):=jt pu
   have w2:ak 1 aW (aC (d2 bq (dV 1) (dC (.int 1))) aN) [fz (brd bd),fz (.tup [u,v])]=M.ret (.bl (ib v)):=jt pv
   have hw:jP (cH (cx (ak 1 aW (aC (d2 bq (dV 1) (dC (.int 0))) aN)))) (cH (cx (ak 1 aW (aC (d2 bq (dV 1) (dC (.int 1))) aN)))) [fz (brd bd),fz (.tup [u,v])]=M.ret (!(ib u&&ib v)):=by
    unfold jP cH cx
    rw[w1,w2]
    simp only[au,wa]
    cases ib u<;>cases ib v<;>rfl
   have bad:(ib u&&ib v)=false→aA (gc (jP (cH (cx (ak 1 aW (aC (d2 bq (dV 1) (dC (.int 0))) aN)))) (cH (cx (ak 1 aW (aC (d2 bq (dV 1) (dC (.int 1))) aN))))) (ba (dC (.bl false))) cF) (ba (fw (uF (fun i j=>decide (i≤j)) (fun i j=>decide (i<j)) (dC (.int 0)) (d2 bq (dV 1) (dC (.int 0))) (dA bb (aC (dV 0) aN))) (uF (fun i j=>decide (i≤j)) (fun i j=>decide (i<j)) (dC (.int 0)) (d2 bq (dV 1) (dC (.int 1))) (dA bb (aC (d2 bq (dV 0) (dC (.int 0))) aN))))) [fz (brd bd),fz (.tup [u,v])]=M.ret (.rt (.bl false)):=fun hz=>by
    rw[hz] at hw
    exact dI (eU hw (aD rfl))
   match u,v,hw,bad with
   | .int a, .int b,hw,bad=>
     refine ao (cw hw rfl) (aD ?_)
     obtain⟨x0,r,e0⟩:∃x0 r,bd=x0::r:=by
      have:=hg.r1
      cases bd with
      |nil=>simp at this
      |cons x r=>exact⟨x,r,rfl⟩
     have hx:x0.length=W:=(hg.rows x0 (by rw[e0];simp)).len
     have l0:dA bb (aC (dV 0) aN) [fz (brd bd),fz (.tup [.int a, .int b])]=M.ret (.int (bd.length:Int)):=by
      show M.ret (D.int ((bd.map D.str).length:Int))=_
      rw[List.length_map]
     have l1:dA bb (aC (d2 bq (dV 0) (dC (.int 0))) aN) [fz (brd bd),fz (.tup [.int a, .int b])]=M.ret (.int (W:Int)):=by
      have i0:bq (brd bd) (.int 0)=M.ret (.str x0):=M4 (r:=r.map D.str) (by rw[e0];rfl)
      simp only[dA,aC,aN,d2,dC,dV,List.getElem?_cons_zero,au,i0,len_str,hx]
     have c1:=Jc (δ:=d2 bq (dV 1) (dC (.int 0))) (i:=a) rfl l0
     have c2:=Jc (δ:=d2 bq (dV 1) (dC (.int 1))) (i:=b) rfl l1
     unfold fw
     rw[c1,au]
     show (if (decide (0≤a)&&decide (a<(bd.length:Int)))=true then _ else _)=M.ret (D.bl ((decide (0≤a)&&decide (a<(bd.length:Int)))&&(decide (0≤b)&&decide (b<(W:Int)))))
     cases (decide (0≤a)&&decide (a<(bd.length:Int)))
     ·rfl
     ·rw[if_pos rfl,c2,Bool.true_and]
   | .non,_,_,bad=>exact bad rfl
   | .bl _,_,_,bad=>exact bad rfl
   | .str _,_,_,bad=>exact bad rfl
   | .tup _,_,_,bad=>exact bad rfl
   | .lst _,_,_,bad=>exact bad rfl
   | .raw _,_,_,_=>exact pu.elim
   | .exc _,_,_,_=>exact pu.elim
   | .scr _,_,_,_=>exact pu.elim
   | .int a, .non,_,bad=>exact bad rfl
   | .int a, .bl _,_,bad=>exact bad rfl
   | .int a, .str _,_,bad=>exact bad rfl
   | .int a, .tup _,_,bad=>exact bad rfl
   | .int a, .lst _,_,bad=>exact bad rfl
   | .int a, .raw _,_,_=>exact pv.elim
   | .int a, .exc _,_,_=>exact pv.elim
   | .int a, .scr _,_,_=>exact pv.elim
 |non=>exact no rfl
 |bl b=>exact no rfl
 |int b=>exact no rfl
 |str b=>exact no rfl
 |lst b=>exact no rfl
 |raw _=>exact h.elim
 |exc _=>exact h.elim
 |scr _=>exact h.elim
 |dct _ _=>exact h.elim
 |dci _ _=>exact h.elim
abbrev Cell:=Nat×Nat
def cD(c:Cell):D:= .tup [.int (c.1:Int), .int (c.2:Int)]
def On(R W:Nat)(c:Cell):Prop:=c.1<R∧c.2<W
instance {R W:Nat}{c:Cell}:Decidable (On R W c):=by unfold On;infer_instance
theorem AX{c:Cell}:Plain2 (cD c):=fun d hd=>by
 have:d= .int (c.1:Int)∨d= .int (c.2:Int):=by simpa[cD] using hd
 rcases this with rfl | rfl<;>trivial
theorem DW{R W:Nat}{c:Cell}(h:On R W c):FQ R W (cD c)=true:=by
 show ((decide ((0:Int)≤(c.1:Int))&&decide ((c.1:Int)<(R:Int)))&&(decide ((0:Int)≤(c.2:Int))&&decide ((c.2:Int)<(W:Int))))=true
 obtain⟨h1,h2⟩:=h
 simp
 omega
theorem Brd.nc{bd:List Str}{W:Nat}(hg:Brd bd W){c:Cell}(h:On bd.length W c):fT [brd bd,cD c]=M.ret .non:=by
 refine nB (ρ:=[fz (brd bd),fz (cD c)]) (cw (lq (nU (b:=true) ?_)) rfl)
 refine(ah (ds:=[brd bd,cD c]) rfl rfl).trans ?_
 rw[u_ hg AX,DW h]
def Ways(w:Nat):Prop:=w=4∨w=8
theorem Ways.nw{w:Nat}(h:Ways w):bI [.int (w:Int)]=M.ret .non:=by
 rcases h with rfl | rfl<;>rfl
def ch(x:Str)(j:Nat):Nat:=x.cps.toList.getD j 0
def at2(bd:List Str)(i j:Nat):Nat:=ch (bd.getD i ⟨#[]⟩) j
abbrev lt(bd:List Str)(c:Cell):Nat:=at2 bd c.1 c.2
def sg(n:Nat):D:= .str ⟨#[n]⟩
theorem Fy{x:Str}{c:Nat}(h:c<x.length):su (.str x) (.int (c:Int))=M.ret (sg (ch x c)):=by
 have h':c<x.cps.toList.length:=by rw[Array.length_toList];exact h
 show (match L2.atI x.cps.toList (c:Int) with | some c=>M.ret (D.str ⟨#[c]⟩) | none=>M.stuck)=_
 rw[dW (List.getElem?_eq_getElem h')]
 unfold sg ch
 rw[List.getD_eq_getElem?_getD,List.getElem?_eq_getElem h']
 rfl
theorem getD_mem{bd:List Str}{i:Nat}(h:i<bd.length):bd.getD i ⟨#[]⟩∈bd:=by
 rw[List.getD_eq_getElem?_getD,List.getElem?_eq_getElem h]
 exact List.getElem_mem h
theorem Hm{bd:List Str}{i:Nat}(h:i<bd.length):bq (brd bd) (.int (i:Int))=M.ret (.str (bd.getD i ⟨#[]⟩)):=by
 show (match L2.atI (bd.map D.str) (i:Int) with | some d=>M.ret d | none=>M.stuck)=_
 rw[dW (x:= .str (bd.getD i ⟨#[]⟩)) ?_]
 rw[List.getElem?_map,List.getElem?_eq_getElem h,List.getD_eq_getElem?_getD,List.getElem?_eq_getElem h]
 rfl
theorem dm{bd:List Str}{W:Nat}(hg:Brd bd W){c:Cell}(h:On bd.length W c):aO [brd bd,cD c]=M.ret (sg (lt bd c)):=by
 refine aS (aD ?_)
 refine(aF (x:= .str (bd.getD c.1 ⟨#[]⟩)) (y:= .int (c.2:Int)) ((aF (x:=brd bd) (y:= .int (c.1:Int)) rfl rfl).trans (Hm h.1)) rfl).trans ?_
 exact Fy (by rw[(hg.rows _ (getD_mem h.1)).len];exact h.2)
theorem Jn(a b:Nat):nu (sg a) (sg b)=M.ret (.bl (decide (a=b))):=by
 show M.ret (D.bl (decide ((⟨#[a]⟩:Str)=⟨#[b]⟩)))=_
 congr 2
 by_cases h:a=b
 ·subst h;simp
 ·have:¬((⟨#[a]⟩:Str)=⟨#[b]⟩):=fun z=>by
   injection z with z
   exact h (by simpa using z)
  rw[decide_eq_false h,decide_eq_false this]
def gi(a b:Nat):Nat:=max a b - min a b
def f6(w:Nat)(a b:Cell):Bool:=if w=4 then decide (gi a.1 b.1+gi a.2 b.2=1) else decide (max (gi a.1 b.1) (gi a.2 b.2)=1)
theorem yi(a b:Nat):AU [.int ((a:Int) - (b:Int))]=M.ret (.int (gi a b:Int)):=by
 show M.ret (D.int _)=_
 congr 2
 unfold gi
 omega
theorem rX{w:Nat}(hw:Ways w)(a b:Cell):dO [cD a,cD b, .int (w:Int)]=M.ret (.bl (f6 w a b)):=by
 refine aS ?_
 refine ao (ρ':=[fz (cD a),fz (cD b),fz (.int (w:Int)),fz (.int (gi a.1 b.1:Int)),none]) ((aI (d:= .int (gi a.1 b.1:Int)) (yi a.1 b.1)).trans rfl) ?_
 refine ao (ρ':=[fz (cD a),fz (cD b),fz (.int (w:Int)),fz (.int (gi a.1 b.1:Int)),fz (.int (gi a.2 b.2:Int))]) ((aI (d:= .int (gi a.2 b.2:Int)) (yi a.2 b.2)).trans rfl) ?_
 rcases hw with rfl | rfl
 ·refine dI (eU (ej rfl) (aD ?_))
  show M.ret (D.bl (((gi a.1 b.1:Int)+(gi a.2 b.2:Int))==1))=_
  unfold f6
  rw[if_pos rfl]
  congr 2
  have:((gi a.1 b.1:Int)+(gi a.2 b.2:Int))=((gi a.1 b.1+gi a.2 b.2:Nat):Int):=by omega
  rw[this]
  have e:=rb (gi a.1 b.1+gi a.2 b.2) 1
  exact e.trans rfl
 ·refine ao (cw (ej rfl) rfl) (aD ?_)
  show M.ret (D.bl ((if (gi a.1 b.1:Int)<(gi a.2 b.2:Int) then(gi a.2 b.2:Int) else(gi a.1 b.1:Int))==1))=_
  have hn:f6 8 a b=decide (max (gi a.1 b.1) (gi a.2 b.2)=1):=rfl
  rw[hn]
  congr 2
  have:(if (gi a.1 b.1:Int)<(gi a.2 b.2:Int) then(gi a.2 b.2:Int) else(gi a.1 b.1:Int))=((max (gi a.1 b.1) (gi a.2 b.2):Nat):Int):=by split<;>omega
  rw[this]
  have e:=rb (max (gi a.1 b.1) (gi a.2 b.2)) 1
  exact e.trans rfl
theorem iL(w:Nat)(a b:Cell):f6 w a b=f6 w b a:=by
 have e:∀x y:Nat,gi x y=gi y x:=fun x y=>by unfold gi;omega
 unfold f6
 rw[e a.1,e a.2]
theorem Kh{a b:Cell}(h:f6 4 a b=true):f6 8 a b=true:=by
 unfold f6 at h⊢
 rw[if_pos rfl] at h
 rw[if_neg (by decide)]
 have h:=of_decide_eq_true h
 exact decide_eq_true (by omega)
theorem cM{put:D→a5→Option a5}{body:DS}{d:D}{ds:List D}{ρ ρ1 ρ2:a5}(h1:put d ρ=some ρ1)(h2:body ρ1=M.ret (.nx ρ2)):forL put body (d::ds) ρ=forL put body ds ρ2:=by
 show (match put d ρ with | none=>M.stuck | some ρ1=>body ρ1>>=fun o=>match o with | .nx ρ2=>forL put body ds ρ2 | .rt v=>M.ret (.rt v))=_
 rw[h1]
 show (body ρ1>>=fun o=>match o with | .nx ρ2=>forL put body ds ρ2 | .rt v=>M.ret (.rt v))=_
 rw[h2]
 rfl
section
variable{α σ:Type}{put:D→a5→Option a5}{body:DS}
theorem ly(enc:α→D)(mk:σ→a5)(step:σ→α→σ)(I:σ→Prop):∀(xs:List α) (s:σ),I s→(∀s,I s→∀x∈xs,I (step s x)∧∃ρ1,put (enc x) (mk s)=some ρ1∧body ρ1=M.ret (.nx (mk (step s x))))→
 I (xs.foldl step s)∧forL put body (xs.map enc) (mk s)=M.ret (.nx (mk (xs.foldl step s)))
 |[],s,h,_=>⟨h,rfl⟩
 |x::xs,s,h,st=>by
  obtain⟨h2,ρ1,e1,e2⟩:=st s h x (List.mem_cons_self ..)
  obtain⟨h3,e3⟩:=ly enc mk step I xs (step s x) h2 fun s hs y hy=>st s hs y (List.mem_cons_of_mem _ hy)
  exact⟨h3,(cM e1 e2).trans e3⟩
theorem lz(enc:α→D)(ρ:a5):∀(xs:List α),(∀x∈xs,∃ρ1,put (enc x) ρ=some ρ1∧body ρ1=M.ret (.nx ρ))→forL put body (xs.map enc) ρ=M.ret (.nx ρ)
 |[],_=>rfl
 |x::xs,st=>by
  obtain⟨ρ1,e1,e2⟩:=st x (List.mem_cons_self ..)
  exact(cM e1 e2).trans (lz enc ρ xs fun y hy=>st y (List.mem_cons_of_mem _ hy))
theorem iy(enc:α→D)(mk:List D→a5)(g:α→List D){B:Nat}:∀(xs:List α) (acc:List D),(acc++xs.flatMap g).length≤B→(∀x∈xs,∀acc,(acc++g x).length≤B→∃ρ1,put (enc x) (mk acc)=some ρ1∧body ρ1=M.ret (.nx (mk (acc++g x))))→
 forL put body (xs.map enc) (mk acc)=M.ret (.nx (mk (acc++xs.flatMap g)))
 |[],acc,_,_=>by simp;rfl
 |x::xs,acc,hB,st=>by
  have NW:((acc++g x)++xs.flatMap g).length≤B:=by simpa[List.flatMap_cons,List.append_assoc] using hB
  obtain⟨ρ1,e1,e2⟩:=st x (List.mem_cons_self ..) acc (Nat.le_trans (by simp only[List.length_append];omega) NW)
  have e3:=iy enc mk g xs (acc++g x) NW fun y hy=>st y (List.mem_cons_of_mem _ hy)
  rw[List.map_cons,cM e1 e2,e3,List.flatMap_cons,List.append_assoc]
end
theorem fM{put:D→a5→Option a5}{δi:DA}{b:DS}{ρ:a5}{ds:List D}{m:M Out}(h:δi ρ=M.ret ds)(h2:forL put b ds ρ=m):eD put δi b ρ=m:=by
 unfold eD
 rw[h]
 exact h2
theorem dF{τ:DS}{ρ:a5}{o:Out}(h:τ ρ=M.ret o):(fun ρ=>noex (τ ρ)) ρ=M.ret o:=by
 show noex (τ ρ)=_
 rw[h]
 rfl
theorem vR(lo n:Nat):gH (lo:Int) n=(List.range' lo n).map fun(k:Nat)=>D.int (k:Int):=by
 unfold gH
 rw[List.range_eq_range']
 have:∀(n a:Nat),(List.range' a n).map (fun (i:Nat)=>D.int ((lo:Int)+(i:Int)))=(List.range' (lo+a) n).map fun(k:Nat)=>D.int (k:Int):=by
  intro n
  induction n with
  |zero=>intro a;rfl
  |succ n ih=>
   intro a
   rw[List.range'_succ,List.range'_succ,List.map_cons,List.map_cons,ih (a+1)]
   rfl
 exact this n 0
theorem Fm{δ:DE}{ρ:a5}{n:Nat}(h:δ ρ=M.ret (.int (n:Int)))(hn:n≤4096):(aC δ aN ρ>>=iV)=M.ret ((List.range n).map fun(k:Nat)=>D.int (k:Int)):=by
 rw[aK h rfl,au,lV hn,show gH 0 n=gH ((0:Nat):Int) n from rfl,vR,List.range_eq_range']
theorem KR{δ ε:DE}{ρ:a5}{i j:Nat}(h:δ ρ=M.ret (.int (i:Int)))(h2:ε ρ=M.ret (.int (j:Int)))(hi:i≤4096)(hj:j≤4096):(aC δ (aC ε aN) ρ>>=rM)=M.ret ((List.range' i (j - i)).map fun(k:Nat)=>D.int (k:Int)):=by
 rw[aK h (aK h2 rfl),au]
 show (if (-4096≤(i:Int)∧(i:Int)≤4096)∧(-4096≤(j:Int)∧(j:Int)≤4096) then M.ret (gH (i:Int) ((j:Int) - (i:Int)).toNat) else M.stuck)=_
 rw[if_pos ⟨⟨by omega,by omega⟩,by omega,by omega⟩,show ((j:Int) - (i:Int)).toNat=j - i by omega,vR]
def cY(W r:Nat):List Cell:=(List.range W).map fun k=>(r,k)
def aU(R W:Nat):List Cell:=(List.range R).flatMap (cY W)
theorem aQ{R W:Nat}{c:Cell}:c∈aU R W↔On R W c:=by
 unfold aU cY On
 simp only[List.mem_flatMap,List.mem_range,List.mem_map]
 constructor
 ·rintro⟨r,hr,k,hk,rfl⟩;exact⟨hr,hk⟩
 ·rintro⟨h1,h2⟩;exact⟨c.1,h1,c.2,h2,rfl⟩
theorem cB(R W:Nat):(aU R W).length=R*W:=by
 unfold aU
 have:∀l:List Nat,(l.flatMap (cY W)).length=l.length*W:=by
  intro l
  induction l with
  |nil=>simp
  |cons a l ih=>rw[List.flatMap_cons,List.length_append,ih,List.length_cons,Nat.succ_mul];simp[cY];omega
 rw[this,List.length_range]
theorem gq{bd:List Str}{W:Nat}(hg:Brd bd W)(r:Nat):bh [brd bd, .int (r:Int)]=M.ret (.lst ((cY W r).map cD)):=by
 have:=hg.w8
 refine aS (aD (bL (Fm (n:=W) (hg.len0 rfl) (by omega)) ?_ (by simp[cY,dh];omega)))
 rw[show (cY W r).map cD=((List.range W).map fun(k:Nat)=>D.int (k:Int)).map (fun e=> .tup [.int (r:Int),e]) by simp[cY,List.map_map];intro a _;rfl]
 exact gw (g:=fun e=> .tup [.int (r:Int),e]) _ fun e _=>rfl
theorem jA{bd:List Str}{W:Nat}(hg:Brd bd W):cq [brd bd]=M.ret (.lst ((aU bd.length W).map cD)):=by
 have h8:=hg.r8
 have w8:=hg.w8
 have hm:bd.length*W≤64:=Nat.mul_le_mul h8 w8
 have Lq:(List.range bd.length).flatMap (fun r=>(cY W r).map cD)=(aU bd.length W).map cD:=by
  unfold aU;rw[List.map_flatMap]
 have e:=iy (put:=putN 2) (body:=cI [2] (C4 1 (ak 2 bh (aC (dV 0) (aC (dV 2) aN))))) (fun (k:Nat)=>D.int (k:Int)) (fun acc=>[fz (brd bd),some (.ow (.lst acc)),none]) (fun r=>(cY W r).map cD) (B:=64) (List.range bd.length) []
  (by rw[List.nil_append,Lq,List.length_map,cB];exact hm) fun r hr acc hB=>by
   refine⟨[fz (brd bd),some (.ow (.lst acc)),fz (.int (r:Int))],rfl,?_⟩
   refine(bp (ρ':=[fz (brd bd),some (.ow (.lst (acc++(cY W r).map cD))),fz (.int (r:Int))]) ?_).trans rfl
   show (bh [brd bd, .int (r:Int)]>>=fun d=>lstM d>>=fun es=>if acc.length+es.length≤lim then M.ret (Out.nx (List.set [fz (brd bd),some (.ow (.lst acc)),fz (.int (r:Int))] 1 (some (.ow (.lst (acc++es)))))) else M.stuck)=_
   rw[gq hg,au]
   show (if acc.length+((cY W r).map cD).length≤lim then M.ret (Out.nx [fz (brd bd),some (.ow (.lst (acc++(cY W r).map cD))),fz (.int (r:Int))]) else M.stuck)=_
   rw[if_pos (by rw[List.length_append] at hB;rw[dh];omega)]
 rw[List.nil_append,Lq] at e
 refine aS (ao (ρ':=[fz (brd bd),some (.ow (.lst [])),none]) rfl (ao (ρ':=[fz (brd bd),some (.ow (.lst ((aU bd.length W).map cD))),none]) (dF (fM (Fm (n:=bd.length) (Hw rfl) (by omega)) e)) ?_))
 rfl
def gA(R W w:Nat)(c:Cell):List Cell:=
 (List.range' (c.1 - 1) (min (c.1+2) R - (c.1 - 1))).flatMap fun r=>((List.range' (c.2 - 1) (min (c.2+2) W - (c.2 - 1))).map fun k=>(r,k)).filter (f6 w c)
theorem jm{R W w:Nat}(hw:Ways w){c x:Cell}:x∈gA R W w c↔On R W x∧f6 w c x=true:=by
 unfold gA On
 simp only[List.mem_flatMap,List.mem_filter,List.mem_map,List.mem_range'_1]
 constructor
 ·rintro⟨r,⟨h1,h2⟩,⟨k,⟨h3,h4⟩,rfl⟩,h5⟩
  refine⟨⟨?_,?_⟩,h5⟩
  ·show r<R;omega
  ·show k<W;omega
 ·rintro⟨⟨h1,h2⟩,h5⟩
  have h6:gi c.1 x.1≤1∧gi c.2 x.2≤1:=by
   unfold f6 at h5
   rcases hw with rfl | rfl
   ·rw[if_pos rfl] at h5;have:=of_decide_eq_true h5;omega
   ·rw[if_neg (by decide)] at h5;have:=of_decide_eq_true h5;omega
  unfold gi at h6
  exact⟨x.1,⟨by omega,by omega⟩,⟨x.2,⟨by omega,by omega⟩,rfl⟩,h5⟩
theorem qW(R W w:Nat)(c:Cell):(gA R W w c).length≤9:=by
 unfold gA
 rw[List.length_flatMap]
 have h:∀r,(((List.range' (c.2 - 1) (min (c.2+2) W - (c.2 - 1))).map fun k=>(r,k)).filter (f6 w c)).length≤3:=fun r=>by
  refine Nat.le_trans (List.length_filter_le ..) ?_
  rw[List.length_map,List.length_range']
  omega
 have:∀(l:List Nat),(l.map fun r=>(((List.range' (c.2 - 1) (min (c.2+2) W - (c.2 - 1))).map fun k=>(r,k)).filter (f6 w c)).length).sum≤3*l.length:=by
  intro l
  induction l with
  |nil=>simp
  |cons a l ih=>rw[List.map_cons,List.sum_cons,List.length_cons];have:=h a;omega
 refine Nat.le_trans (this _) ?_
 rw[List.length_range']
 omega
abbrev nc(b c w:D)(acc:List D)(x4 x5:Option Sl):a5:=[fz b,fz c,fz w,some (.ow (.lst acc)),x4,x5]
theorem iJ{bd:List Str}{W w:Nat}(hg:Brd bd W)(hw:Ways w){c:Cell}(hc:On bd.length W c):bj [brd bd,cD c, .int (w:Int)]=M.ret (.lst ((gA bd.length W w c).map cD)):=by
 have h8:=hg.r8
 have w8:=hg.w8
 obtain⟨c1,c2⟩:=hc
 have JO:∀n:Nat,xj [.int ((n:Int) - 1), .int 0]=M.ret (.int ((n - 1:Nat):Int)):=fun n=>by
  show M.ret (D.int (if (0:Int)>(n:Int) - 1 then 0 else(n:Int) - 1))=_
  congr 2
  split<;>omega
 have G8:∀n m:Nat,z6 [.int ((n:Int)+2), .int (m:Int)]=M.ret (.int ((min (n+2) m:Nat):Int)):=fun n m=>by
  show M.ret (D.int (if (m:Int)<(n:Int)+2 then(m:Int) else(n:Int)+2))=_
  congr 2
  split<;>omega
 have inner:∀(r:Nat) (acc:List D),acc.length≤16→forL (putN 5) (cI [5] (gc (cx (ak 3 dO (aC (dV 1) (aC (dA dq (aC (dV 4) (aC (dV 5) aN))) (aC (dV 2) aN))))) (jx 3 (dA dq (aC (dV 4) (aC (dV 5) aN)))) cF))
  ((List.range' (c.2 - 1) (min (c.2+2) W - (c.2 - 1))).map fun(k:Nat)=>D.int (k:Int)) (nc (brd bd) (cD c) (.int (w:Int)) acc (fz (.int (r:Int))) none)=
  M.ret (.nx (nc (brd bd) (cD c) (.int (w:Int)) (acc++(List.range' (c.2 - 1) (min (c.2+2) W - (c.2 - 1))).flatMap fun k=>if f6 w c (r,k) then [cD (r,k)] else []) (fz (.int (r:Int))) none)):=fun r acc Bx=>by
  refine iy (fun (k:Nat)=>D.int (k:Int)) (fun acc=>nc (brd bd) (cD c) (.int (w:Int)) acc (fz (.int (r:Int))) none) (fun k=>if f6 w c (r,k) then [cD (r,k)] else []) (B:=64) _ acc ?_ fun k hk acc hB=>?_
  ·rw[List.length_append,List.length_flatMap]
   have:∀l:List Nat,(l.map fun k=>(if f6 w c (r,k) then [cD (r,k)] else []).length).sum≤l.length:=by
    intro l
    induction l with
    |nil=>simp
    |cons a l ih=>rw[List.map_cons,List.sum_cons,List.length_cons];split<;>simp<;>omega
   have h2:=this (List.range' (c.2 - 1) (min (c.2+2) W - (c.2 - 1)))
   rw[List.length_range'] at h2
   omega
  ·refine⟨nc (brd bd) (cD c) (.int (w:Int)) acc (fz (.int (r:Int))) (fz (.int (k:Int))),rfl,?_⟩
   have ht:cx (ak 3 dO (aC (dV 1) (aC (dA dq (aC (dV 4) (aC (dV 5) aN))) (aC (dV 2) aN)))) (nc (brd bd) (cD c) (.int (w:Int)) acc (fz (.int (r:Int))) (fz (.int (k:Int))))=M.ret (f6 w c (r,k)):=
    nU ((ah (ds:=[cD c,cD (r,k), .int (w:Int)]) rfl rfl).trans (rX hw c (r,k)))
   cases hn:f6 w c (r,k) with
   |true=>
    rw[hn] at ht
    rw[hn,if_pos rfl,List.length_append] at hB
    refine(bp (ρ':=nc (brd bd) (cD c) (.int (w:Int)) (acc++[cD (r,k)]) (fz (.int (r:Int))) (fz (.int (k:Int)))) (eU ht ?_)).trans rfl
    show (if acc.length<lim then M.ret (Out.nx (nc (brd bd) (cD c) (.int (w:Int)) (acc++[cD (r,k)]) (fz (.int (r:Int))) (fz (.int (k:Int))))) else M.stuck)=_
    rw[if_pos (by rw[dh];simp at hB;omega)]
   |false=>
    rw[hn] at ht
    refine(bp (ρ':=nc (brd bd) (cD c) (.int (w:Int)) acc (fz (.int (r:Int))) (fz (.int (k:Int)))) (cw ht rfl)).trans ?_
    simp
    rfl
 have flt:∀r,((List.range' (c.2 - 1) (min (c.2+2) W - (c.2 - 1))).flatMap fun k=>if f6 w c (r,k) then [cD (r,k)] else [])=(((List.range' (c.2 - 1) (min (c.2+2) W - (c.2 - 1))).map fun k=>(r,k)).filter (f6 w c)).map cD:=fun r=>by
  generalize List.range' (c.2 - 1) (min (c.2+2) W - (c.2 - 1))=l
  induction l with
  |nil=>rfl
  |cons a l ih=>
   rw[List.flatMap_cons,ih,List.map_cons,List.filter_cons]
   cases f6 w c (r,a)<;>rfl
 have tot:(List.range' (c.1 - 1) (min (c.1+2) bd.length - (c.1 - 1))).flatMap (fun r=>(((List.range' (c.2 - 1) (min (c.2+2) W - (c.2 - 1))).map fun k=>(r,k)).filter (f6 w c)).map cD)=(gA bd.length W w c).map cD:=by
  unfold gA;rw[List.map_flatMap]
 have outer:=iy (put:=putN 4) (body:=cI [4,5] (eD (putN 5) (fun ρ=>(aC (dA xj (aC (d2 nY (d2 bq (dV 1) (dC (.int 1))) (dC (.int 1))) (aC (dC (.int 0)) aN))) (aC (dA z6 (aC (d2 c6 (d2 bq (dV 1) (dC (.int 1))) (dC (.int 2))) (aC (dA bb (aC (d2 bq (dV 0) (dC (.int 0))) aN)) aN))) aN)) ρ>>=rM) (cI [5] (gc (cx (ak 3 dO (aC (dV 1) (aC (dA dq (aC (dV 4) (aC (dV 5) aN))) (aC (dV 2) aN))))) (jx 3 (dA dq (aC (dV 4) (aC (dV 5) aN)))) cF))))
  (fun (k:Nat)=>D.int (k:Int)) (fun acc=>nc (brd bd) (cD c) (.int (w:Int)) acc none none) (fun r=>(((List.range' (c.2 - 1) (min (c.2+2) W - (c.2 - 1))).map fun k=>(r,k)).filter (f6 w c)).map cD) (B:=16) (List.range' (c.1 - 1) (min (c.1+2) bd.length - (c.1 - 1))) []
  (by rw[List.nil_append,tot,List.length_map];have:=qW bd.length W w c;omega) fun r hr acc hB=>by
   refine⟨nc (brd bd) (cD c) (.int (w:Int)) acc (fz (.int (r:Int))) none,rfl,?_⟩
   have e:=inner r acc (by rw[List.length_append] at hB;omega)
   rw[flt r] at e
   refine(bp (fM (KR (i:=c.2 - 1) (j:=min (c.2+2) W) ?_ ?_ (by omega) (by omega)) e)).trans rfl
   ·exact(bQ (xs:=[.int ((c.2:Int) - 1), .int 0]) rfl).trans (JO c.2)
   ·refine(bQ (xs:=[.int ((c.2:Int)+2), .int (W:Int)]) ?_).trans (G8 c.2 W)
    exact aK (show d2 c6 (d2 bq (dV 1) (dC (.int 1))) (dC (.int 2)) (nc (brd bd) (cD c) (.int (w:Int)) acc (fz (.int (r:Int))) none)=M.ret (.int ((c.2:Int)+2)) from rfl) (aK (hg.len0 rfl) rfl)
 rw[List.nil_append,tot] at outer
 refine aS (ao (ρ':=nc (brd bd) (cD c) (.int (w:Int)) [] none none) rfl (ao (ρ':=nc (brd bd) (cD c) (.int (w:Int)) ((gA bd.length W w c).map cD) none none) (dF (fM (KR (i:=c.1 - 1) (j:=min (c.1+2) bd.length) ?_ ?_ (by omega) (by omega)) outer)) ?_))
 ·exact(bQ (xs:=[.int ((c.1:Int) - 1), .int 0]) rfl).trans (JO c.1)
 ·refine(bQ (xs:=[.int ((c.1:Int)+2), .int (bd.length:Int)]) ?_).trans (G8 c.1 bd.length)
  exact aK (show d2 c6 (d2 bq (dV 1) (dC (.int 0))) (dC (.int 2)) (nc (brd bd) (cD c) (.int (w:Int)) [] none none)=M.ret (.int ((c.1:Int)+2)) from rfl) (aK (Hw rfl) rfl)
 ·rfl
def a_(bd:List Str)(W w:Nat)(c:Cell):List Cell:=(gA bd.length W w c).filter fun x=>decide (lt bd x=lt bd c)
theorem dS{bd:List Str}{W w:Nat}(hw:Ways w){c x:Cell}:x∈a_ bd W w c↔On bd.length W x∧f6 w c x=true∧lt bd x=lt bd c:=by
 unfold a_
 rw[List.mem_filter,jm hw,decide_eq_true_eq,and_assoc]
theorem zY(bd:List Str)(W w:Nat)(c:Cell):(a_ bd W w c).length≤9:=Nat.le_trans (List.length_filter_le ..) (qW ..)
theorem qD{α:Type}{f:D→M (Option D)}(enc:α→D)(p:α→Bool):∀(xs:List α),(∀x∈xs,f (enc x)=M.ret (if p x then some (enc x) else none))→di f (xs.map enc)=M.ret ((xs.filter p).map enc)
 |[],_=>rfl
 |x::xs,h=>by
  rw[List.map_cons,el,h x (List.mem_cons_self ..),au,qD enc p xs fun y hy=>h y (List.mem_cons_of_mem _ hy),List.filter_cons]
  cases p x<;>rfl
theorem oq{bd:List Str}{W w:Nat}(hg:Brd bd W)(hw:Ways w){c:Cell}(hc:On bd.length W c):cy [brd bd,cD c, .int (w:Int)]=M.ret (.lst ((a_ bd W w c).map cD)):=by
 refine aS (ao (ρ':=[fz (brd bd),fz (cD c),fz (.int (w:Int)),fz (sg (lt bd c))]) ((aI (d:=sg (lt bd c)) ((ah (ds:=[brd bd,cD c]) rfl rfl).trans (dm hg hc))).trans rfl) (aD ?_))
 refine bL (ds:=(gA bd.length W w c).map cD) ?_ (qD cD _ _ fun x hx=>?_) (by rw[List.length_map,dh];exact Nat.le_trans (zY bd W w c) (by decide))
 ·show (ak 3 bj _ _>>=lstM)=_
  have e:ak 3 bj (aC (dV 0) (aC (dV 1) (aC (dV 2) aN))) [fz (brd bd),fz (cD c),fz (.int (w:Int)),fz (sg (lt bd c))]=M.ret (.lst ((gA bd.length W w c).map cD)):=iJ hg hw hc
  rw[e]
  rfl
 ·have J1:=(jm hw).mp hx
  rw[A6]
  have e:bS (d2 nu (ak 2 aO (aC (dV 1) (aC (dV 0) aN))) (dV 4)) (fz (cD x)::[fz (brd bd),fz (cD c),fz (.int (w:Int)),fz (sg (lt bd c))])=M.ret (decide (lt bd x=lt bd c)):=by
   refine ej ?_
   exact(aF (x:=sg (lt bd x)) (y:=sg (lt bd c)) ((ah (ds:=[brd bd,cD x]) rfl rfl).trans (dm hg J1.1)) rfl).trans (Jn _ _)
  rw[e,au]
  cases decide (lt bd x=lt bd c)<;>rfl
end K1
namespace K1
section
variable{α:Type}[DecidableEq α]
structure Bk (α:Type) where
 ks:List α
 ps:List (Option α)
 fu:List α
def eL(c:α)(s:Bk α)(x:α):Bk α:=if x∈s.ks then s else⟨s.ks++[x],s.ps++[some c],s.fu++[x]⟩
variable(nb:α→List α)
def l7(s:Bk α)(c:α):Bk α:=(nb c).foldl (eL c) s
def cP(s:Bk α)(ring:List α):Bk α:=ring.foldl (l7 nb) s
def Rb(a:α):Nat→α→Prop
 |0,x=>x=a
 |k+1,x=>Rb a k x∨∃y,Rb a k y∧x∈nb y
variable{nb}{a:α}
theorem Rb.mono{i j:Nat}{x:α}(h:i≤j)(r:Rb nb a i x):Rb nb a j x:=by
 induction h with
 |refl=>exact r
 |step _ ih=>exact .inl ih
structure Grown (P:α→α→Prop) (s t:Bk α):Prop where
 ex:∃fs:List (α×α),t.ks=s.ks++fs.map (·.1)∧t.ps=s.ps++fs.map (fun p=>some p.2)∧t.fu=s.fu++fs.map (·.1)∧(∀p∈fs,P p.2 p.1)
 nd:s.ks.Nodup→t.ks.Nodup
theorem Grown.refl{P:α→α→Prop}(s:Bk α):Grown P s s:=⟨⟨[],by simp,by simp,by simp,fun _ h=>by cases h⟩,id⟩
theorem Grown.trans{P:α→α→Prop}{s t u:Bk α}(h1:Grown P s t)(h2:Grown P t u):Grown P s u:=by
 obtain⟨fs,a1,a2,a3,a4⟩:=h1.ex
 obtain⟨gs,b1,b2,b3,b4⟩:=h2.ex
 refine⟨⟨fs++gs,by rw[b1,a1];simp,by rw[b2,a2];simp,by rw[b3,a3];simp,fun p hp=>?_⟩,fun h=>h2.nd (h1.nd h)⟩
 rcases List.mem_append.mp hp with h | h
 ·exact a4 p h
 ·exact b4 p h
theorem uB{P:α→α→Prop}{c x:α}(s:Bk α)(h:P c x):Grown P s (eL c s x):=by
 unfold eL
 split
 ·exact Grown.refl s
 ·rename_i hx
  refine⟨⟨[(x,c)],rfl,rfl,rfl,fun p hp=>?_⟩,fun hn=>?_⟩
  ·have:p=(x,c):=by simpa using hp
   subst this;exact h
  ·refine List.nodup_append.mpr ⟨hn,by simp,fun y hy z hz e=>?_⟩
   have hz:z=x:=by simpa using hz
   rw[e,hz] at hy
   exact hx hy
theorem zo{c x y:α}(s:Bk α):y∈(eL c s x).ks↔y∈s.ks∨y=x:=by
 unfold eL
 split
 ·rename_i hx
  exact⟨.inl,fun h=>h.elim id fun e=>by rw[e];exact hx⟩
 ·simp
theorem foldStep{P:α→α→Prop}{c:α}:∀(l:List α) (s:Bk α),(∀x∈l,P c x)→Grown P s (l.foldl (eL c) s)∧∀y,y∈(l.foldl (eL c) s).ks↔y∈s.ks∨y∈l
 |[],s,_=>⟨Grown.refl s,fun y=>by simp⟩
 |x::l,s,h=>by
  obtain⟨h1,h2⟩:=foldStep l (eL c s x) fun y hy=>h y (List.mem_cons_of_mem _ hy)
  refine⟨(uB s (h x (List.mem_cons_self ..))).trans h1,fun y=>?_⟩
  rw[List.foldl_cons,h2 y,zo]
  simp[or_assoc]
theorem uU{P:α→α→Prop}:∀(l:List α) (s:Bk α),(∀c∈l,∀x∈nb c,P c x)→Grown P s (cP nb s l)∧∀y,y∈(cP nb s l).ks↔y∈s.ks∨∃c∈l,y∈nb c
 |[],s,_=>⟨Grown.refl s,fun y=>by simp[cP]⟩
 |c::l,s,h=>by
  obtain⟨g1,m1⟩:=foldStep (P:=P) (c:=c) (nb c) s (h c (List.mem_cons_self ..))
  obtain⟨g2,m2⟩:=uU l (l7 nb s c) fun c' hc=>h c' (List.mem_cons_of_mem _ hc)
  refine⟨g1.trans g2,fun y=>?_⟩
  show y∈(cP nb (l7 nb s c) l).ks↔_
  rw[m2 y]
  show (y∈((nb c).foldl (eL c) s).ks∨_)↔_
  rw[m1 y]
  simp[or_assoc]
structure Rng (nb:α→List α) (a:α) (k:Nat) (ks:List α) (ps:List (Option α)) (ring:List α):Prop where
 len:ks.length=ps.length
 nd:ks.Nodup
 mem:∀x,x∈ks↔Rb nb a k x
 rg:∀x,x∈ring↔Rb nb a k x∧∀j,Rb nb a j x→k≤j
 par:∀x p,(x,some p)∈ks.zip ps→x∈nb p∧p∈ks∧∀j,Rb nb a j x→∃i,j=i+1∧Rb nb a i p
 non:∀x,(x,none)∈ks.zip ps→x=a
 sz:k≤ks.length∧(ring≠[]→k+1≤ks.length)
theorem Rng.zero(nb:α→List α)(a:α):Rng nb a 0 [a] [none] [a] where
 len:=rfl
 nd:=by simp
 mem:=fun x=>by simp[Rb]
 rg:=fun x=>by simp[Rb]
 par:=fun x p h=>by simp at h
 non:=fun x h=>by simpa using h
 sz:=⟨by simp,fun _=>by simp⟩
theorem Rng.next{k:Nat}{ks:List α}{ps:List (Option α)}{ring:List α}(h:Rng nb a k ks ps ring)(hr:ring≠[]):Rng nb a (k+1) (cP nb ⟨ks,ps,[]⟩ ring).ks (cP nb ⟨ks,ps,[]⟩ ring).ps (cP nb ⟨ks,ps,[]⟩ ring).fu:=by
 obtain⟨g,m⟩:=uU (nb:=nb) (P:=fun c x=>c∈ring∧x∈nb c) ring ⟨ks,ps,[]⟩ fun c hc x hx=>⟨hc,hx⟩
 obtain⟨fs,e1,e2,e3,e4⟩:=g.ex
 have Ea:=g.nd h.nd
 have hm:∀x,x∈(cP nb ⟨ks,ps,[]⟩ ring).ks↔Rb nb a (k+1) x:=fun x=>by
  rw[m x]
  show (x∈ks∨_)↔(Rb nb a k x∨_)
  constructor
  ·rintro(q | ⟨c,hc,hx⟩)
   ·exact .inl ((h.mem x).mp q)
   ·exact .inr ⟨c,((h.rg c).mp hc).1,hx⟩
  ·rintro(q | ⟨y,hy,hx⟩)
   ·exact .inl ((h.mem x).mpr q)
   ·by_cases hk:∀j,Rb nb a j y→k≤j
    ·exact .inr ⟨y,(h.rg y).mpr ⟨hy,hk⟩,hx⟩
    ·refine .inl ((h.mem x).mpr ?_)
     obtain⟨j,hj⟩:=Classical.not_forall.mp hk
     obtain⟨Mt,PK⟩:=Classical.not_imp.mp hj
     exact Rb.mono (i:=j+1) (by omega) (.inr ⟨y,Mt,hx⟩)
 have AM:(cP nb ⟨ks,ps,[]⟩ ring).ks=ks++fs.map (·.1):=e1
 have IH:(cP nb ⟨ks,ps,[]⟩ ring).ps=ps++fs.map (fun p=>some p.2):=e2
 have Lg:(cP nb ⟨ks,ps,[]⟩ ring).fu=fs.map (·.1):=e3
 have new:∀x,x∈fs.map (·.1)→¬Rb nb a k x:=fun x hx hk=>by
  rw[AM] at Ea
  exact(List.nodup_append.mp Ea).2.2 x ((h.mem x).mpr hk) x hx rfl
 have Ka:∀x,¬Rb nb a k x→∀j,Rb nb a j x→k+1≤j:=fun x hx j hj=>by
  by_cases PL:k+1≤j
  ·exact PL
  ·exact absurd (Rb.mono (by omega) hj) hx
 have J2:(cP nb ⟨ks,ps,[]⟩ ring).ks.zip (cP nb ⟨ks,ps,[]⟩ ring).ps=ks.zip ps++fs.map fun p=>(p.1,some p.2):=by
  rw[AM,IH,List.zip_append h.len]
  congr 1
  rw[List.zip_map']
 refine⟨?_,Ea,hm,fun x=>?_,fun x p hp=>?_,fun x hx=>?_,?_⟩
 ·rw[AM,IH,List.length_append,List.length_append,List.length_map,List.length_map,h.len]
 ·rw[Lg]
  constructor
  ·intro hx
   exact⟨(hm x).mp (by rw[AM];exact List.mem_append_right _ hx),Ka x (new x hx)⟩
  ·rintro⟨h1,h2⟩
   have h3:=(hm x).mpr h1
   rw[AM] at h3
   rcases List.mem_append.mp h3 with q | q
   ·have:=h2 k ((h.mem x).mp q)
    omega
   ·exact q
 ·rw[J2] at hp
  rcases List.mem_append.mp hp with q | q
  ·obtain⟨q1,q2,q3⟩:=h.par x p q
   exact⟨q1,by rw[AM];exact List.mem_append_left _ q2,q3⟩
  ·obtain⟨f,hf,e⟩:=List.mem_map.mp q
   cases e
   obtain⟨f1,f2⟩:=e4 f hf
   have hc:=(h.rg f.2).mp f1
   refine⟨f2,by rw[AM];exact List.mem_append_left _ ((h.mem _).mpr hc.1),fun j hj=>?_⟩
   have:=Ka f.1 (new f.1 (List.mem_map.mpr ⟨f,hf,rfl⟩)) j hj
   exact⟨j - 1,by omega,Rb.mono (by omega) hc.1⟩
 ·rw[J2] at hx
  rcases List.mem_append.mp hx with q | q
  ·exact h.non x q
  ·obtain⟨f,hf,e⟩:=List.mem_map.mp q
   cases e
 ·have hs:=h.sz.2 hr
  rw[AM,List.length_append,List.length_map]
  refine⟨by omega,fun il=>?_⟩
  have:fs≠[]:=fun z=>il (by rw[Lg,z];rfl)
  have:=List.length_pos_iff.mpr this
  omega
theorem Rng.last{k:Nat}{ks:List α}{ps:List (Option α)}(h:Rng nb a k ks ps []):∀x,x∈ks↔∃j,Rb nb a j x:=by
 have none:∀x,¬(Rb nb a k x∧∀j,Rb nb a j x→k≤j):=fun x q=>by
  have:=(h.rg x).mpr q
  cases this
 have hk:∀x,Rb nb a k x→∃i,i<k∧Rb nb a i x:=fun x hx=>by
  by_cases q:∀j,Rb nb a j x→k≤j
  ·exact absurd ⟨hx,q⟩ (none x)
  ·obtain⟨j,hj⟩:=Classical.not_forall.mp q
   obtain⟨Mt,PK⟩:=Classical.not_imp.mp hj
   exact⟨j,by omega,Mt⟩
 have all:∀j x,Rb nb a j x→Rb nb a k x:=by
  intro j
  induction j with
  |zero=>intro x hx;exact Rb.mono (Nat.zero_le _) hx
  |succ j ih=>
   rintro x (q | ⟨y,hy,hx⟩)
   ·exact ih x q
   ·obtain⟨i,hi,hr⟩:=hk y (ih y hy)
    exact Rb.mono (i:=i+1) (by omega) (.inr ⟨y,hr,hx⟩)
 exact fun x=>⟨fun q=>⟨k,(h.mem x).mp q⟩,fun⟨j,hj⟩=>(h.mem x).mpr (all j x hj)⟩
theorem fJ{l U:List α}(hn:l.Nodup)(h:∀x∈l,x∈U):l.length≤U.length:=by
 induction l generalizing U with
 |nil=>simp
 |cons a l ih=>
  rw[List.nodup_cons] at hn
  have hl:∀x∈l,x∈U.erase a:=fun x hx=>by
   have il:x≠a:=fun z=>hn.1 (by rw[←z];exact hx)
   exact(List.mem_erase_of_ne il).mpr (h x (List.mem_cons_of_mem _ hx))
  have h1:=ih hn.2 hl
  have h2:=List.length_erase_of_mem (h a (List.mem_cons_self ..))
  have h3:=List.length_pos_of_mem (h a (List.mem_cons_self ..))
  rw[List.length_cons]
  omega
end
end K1
namespace K1
open PySem L2 L3
def keyOf(c:Cell):List Key:=[.inl (c.1:Int), .inl (c.2:Int)]
theorem jh{a b:Cell}(h:keyOf a=keyOf b):a=b:=by
 unfold keyOf at h
 injection h with h1 h2
 injection h1 with h1
 injection h2 with h2 _
 injection h2 with h2
 exact Prod.ext (Int.ofNat.inj h1) (Int.ofNat.inj h2)
theorem gP(c:Cell):jw (cD c)=some (keyOf c):=rfl
theorem fo{c:Cell}:∀{ks:List Cell}{ds:List D},c∉ks→eV (ks.map keyOf) ds (keyOf c)=none
 |[],_,_=>by simp[eV]
 |k::ks,[],_=>by simp[eV]
 |k::ks,d::ds,h=>by
  rw[List.map_cons]
  unfold eV
  rw[if_neg (fun z=>h (by rw[jh z];exact List.mem_cons_self ..))]
  exact fo fun z=>h (List.mem_cons_of_mem _ z)
theorem lZ{c:Cell}:∀{ks:List Cell}{ds:List D},ks.length=ds.length→c∈ks→∃d,eV (ks.map keyOf) ds (keyOf c)=some d∧(c,d)∈ks.zip ds
 |[],_,_,h=>by cases h
 |k::ks,[],hl,_=>by simp at hl
 |k::ks,d::ds,hl,h=>by
  rw[List.map_cons]
  unfold eV
  by_cases hk:k=c
  ·subst hk
   rw[if_pos rfl]
   exact⟨d,rfl,by simp⟩
  ·rw[if_neg (fun z=>hk (jh z))]
   have hc:c∈ks:=by
    rcases List.mem_cons.mp h with q | q
    ·exact absurd q.symm hk
    ·exact q
   obtain⟨d',e1,e2⟩:=lZ (ds:=ds) (by simpa using hl) hc
   exact⟨d',e1,by simp[e2]⟩
theorem sF{neg:Bool}{ks:List Cell}{ds:List D}{c:Cell}(hl:ks.length=ds.length):iz neg (cD c) (.dct (ks.map keyOf) ds)=M.ret (.bl (if neg then !decide (c∈ks) else decide (c∈ks))):=by
 show (match (jw (cD c)).map (eV (ks.map keyOf) ds) with | some o=>M.ret (D.bl (if neg then !o.isSome else o.isSome)) | none=>M.stuck)=_
 rw[gP]
 show M.ret (D.bl (if neg then !(eV (ks.map keyOf) ds (keyOf c)).isSome else(eV (ks.map keyOf) ds (keyOf c)).isSome))=_
 by_cases h:c∈ks
 ·obtain⟨d,e,_⟩:=lZ hl h
  rw[e,decide_eq_true h];rfl
 ·rw[fo h,decide_eq_false h];rfl
theorem vL{ks:List Cell}{ds:List D}{c:Cell}{d:D}(h:c∉ks)(hl:ds.length<lim):lQ (.dct (ks.map keyOf) ds) (cD c) d=some (.dct ((ks++[c]).map keyOf) (ds++[d])):=by
 show (match jw (cD c) with | some kk=>if ds.length<lim then some (C.dct (df (ks.map keyOf) ds kk) (cu (ks.map keyOf) ds kk d)) else none | none=>none)=_
 rw[gP]
 show (if ds.length<lim then some (C.dct (df (ks.map keyOf) ds (keyOf c)) (cu (ks.map keyOf) ds (keyOf c) d)) else none)=_
 rw[if_pos hl]
 unfold df cu
 rw[fo h]
 simp
theorem Gz{τ:DT}{ρ:a5}{b:Bool}(h:τ (wZ ρ)=M.ret b):Gy τ ρ=M.ret b:=by
 unfold Gy
 rw[h]
 rfl
theorem Jj{δ:DE}{ρ:a5}{d:D}(h:δ (wZ ρ)=M.ret d)(hf:yB d=true):Ji δ ρ=M.ret d:=by
 unfold Ji
 rw[h]
 show nX d=_
 unfold nX
 rw[hf]
 rfl
theorem pL{c:DT}{body:DS}{n:Nat}{ρ ρ':a5}{m:M Out}(h1:c ρ=M.ret true)(h2:body ρ=M.ret (.nx ρ'))(h3:eE c body n ρ'=m):eE c body (n+1) ρ=m:=by
 show (c ρ>>=fun b=>if b then body ρ>>=fun o=>match o with | .nx ρ'=>eE c body n ρ' | .rt d=>M.ret (.rt d) else M.ret (.nx ρ))=_
 rw[h1,au,if_pos rfl,h2]
 exact h3
theorem we{c:DT}{body:DS}{n:Nat}{ρ:a5}(h1:c ρ=M.ret false):eE c body (n+1) ρ=M.ret (.nx ρ):=by
 show (c ρ>>=fun b=>if b then body ρ>>=fun o=>match o with | .nx ρ'=>eE c body n ρ' | .rt d=>M.ret (.rt d) else M.ret (.nx ρ))=_
 rw[h1]
 rfl
def Ck:Option Cell→D
 |none=> .non
 |some c=>cD c
abbrev AV(ks:List Cell)(ps:List (Option Cell)):C:= .dct (ks.map keyOf) (ps.map Ck)
abbrev yr(ks:List Cell)(ps:List (Option Cell)):D:= .dct (ks.map keyOf) (ps.map Ck)
abbrev sb(b s w:D)(ks:List Cell)(ps:List (Option Cell))(x4 x5 x6 x7:Option Sl):a5:=[fz b,fz s,fz w,some (.ow (AV ks ps)),x4,x5,x6,x7]
structure Bok (R W:Nat) (s:Bk Cell):Prop where
 len:s.ks.length=s.ps.length
 nd:s.ks.Nodup
 on:∀x∈s.ks,On R W x
 fu:s.fu.length≤s.ks.length
theorem Bok.le{R W:Nat}{s:Bk Cell}(h:Bok R W s):s.ks.length≤R*W:=by
 rw[←cB R W]
 exact fJ h.nd fun x hx=>aQ.mpr (h.on x hx)
theorem Bok.step{R W:Nat}{s:Bk Cell}(h:Bok R W s){c x:Cell}(hx:On R W x):Bok R W (eL c s x):=by
 unfold eL
 split
 ·exact h
 ·rename_i hn
  refine⟨by simp[h.len],?_,fun y hy=>?_,by simp;exact h.fu⟩
  ·refine List.nodup_append.mpr ⟨h.nd,by simp,fun y hy z hz e=>?_⟩
   have hz:z=x:=by simpa using hz
   rw[e,hz] at hy
   exact hn hy
  ·rcases List.mem_append.mp hy with q | q
   ·exact h.on y q
   ·have:y=x:=by simpa using q
    rw[this];exact hx
def Il:DS:=cI [7] (gc (Gy (bS (d2 (iz true) (dV 7) (dV 3)))) (aA (ig 3 (dV 7) (dV 6)) (jx 5 (dV 7))) cF)
theorem Ft{bd:List Str}{W:Nat}(hg:Brd bd W){a c x:Cell}{w:D}{r:Option Sl}{s:Bk Cell}(h:Bok bd.length W s):
 Il (sb (brd bd) (cD a) w s.ks s.ps r (some (.ow (.lst (s.fu.map cD)))) (fz (cD c)) (fz (cD x)))=M.ret (.nx (sb (brd bd) (cD a) w (eL c s x).ks (eL c s x).ps r (some (.ow (.lst ((eL c s x).fu.map cD)))) (fz (cD c)) none)):=by
 have hle:=h.le
 have hm:bd.length*W≤64:=Nat.mul_le_mul hg.r8 hg.w8
 have ht:Gy (bS (d2 (iz true) (dV 7) (dV 3))) (sb (brd bd) (cD a) w s.ks s.ps r (some (.ow (.lst (s.fu.map cD)))) (fz (cD c)) (fz (cD x)))=M.ret (!decide (x∈s.ks)):=
  Gz (ej ((aF (x:=cD x) (y:=yr s.ks s.ps) rfl rfl).trans (sF (neg:=true) (by rw[List.length_map];exact h.len))))
 by_cases hx:x∈s.ks
 ·rw[decide_eq_true hx] at ht
  have e:eL c s x=s:=if_pos hx
  rw[e]
  exact(bp (cw ht rfl)).trans rfl
 ·rw[decide_eq_false hx] at ht
  have e:eL c s x=⟨s.ks++[x],s.ps++[some c],s.fu++[x]⟩:=if_neg hx
  rw[e]
  refine(bp (ρ':=sb (brd bd) (cD a) w (s.ks++[x]) (s.ps++[some c]) r (some (.ow (.lst ((s.fu++[x]).map cD)))) (fz (cD c)) (fz (cD x))) (eU ht (ao (ρ':=sb (brd bd) (cD a) w (s.ks++[x]) (s.ps++[some c]) r (some (.ow (.lst (s.fu.map cD)))) (fz (cD c)) (fz (cD x))) ?_ ?_))).trans rfl
  ·show (match lQ (AV s.ks s.ps) (cD x) (cD c) with | some c'=>M.ret (Out.nx (List.set (sb (brd bd) (cD a) w s.ks s.ps r (some (.ow (.lst (s.fu.map cD)))) (fz (cD c)) (fz (cD x))) 3 (some (.ow c')))) | none=>M.stuck)=_
   rw[vL hx (by rw[List.length_map,←h.len,dh];omega)]
   rw[show s.ps.map Ck++[cD c]=(s.ps++[some c]).map Ck by simp[Ck]]
   rfl
  ·show (if (s.fu.map cD).length<lim then M.ret (Out.nx (sb (brd bd) (cD a) w (s.ks++[x]) (s.ps++[some c]) r (some (.ow (.lst (s.fu.map cD++[cD x])))) (fz (cD c)) (fz (cD x)))) else M.stuck)=_
   have:=h.fu
   rw[if_pos (by rw[List.length_map,dh];omega)]
   rw[show s.fu.map cD++[cD x]=(s.fu++[x]).map cD by simp]
def Ik:DS:=cI [6,7] (eD (putN 7) (dU (ak 3 cy (aC (dV 0) (aC (dV 6) (aC (dV 2) aN))))) Il)
theorem zd{bd:List Str}{W w:Nat}(hg:Brd bd W)(hw:Ways w){a c:Cell}(hc:On bd.length W c){r:Option Sl}{s:Bk Cell}(h:Bok bd.length W s):
 Bok bd.length W (l7 (a_ bd W w) s c)∧Ik (sb (brd bd) (cD a) (.int (w:Int)) s.ks s.ps r (some (.ow (.lst (s.fu.map cD)))) (fz (cD c)) none)=
  M.ret (.nx (sb (brd bd) (cD a) (.int (w:Int)) (l7 (a_ bd W w) s c).ks (l7 (a_ bd W w) s c).ps r (some (.ow (.lst ((l7 (a_ bd W w) s c).fu.map cD)))) none none)):=by
 obtain⟨h1,e⟩:=ly (put:=putN 7) (body:=Il) cD (fun s:Bk Cell=>sb (brd bd) (cD a) (.int (w:Int)) s.ks s.ps r (some (.ow (.lst (s.fu.map cD)))) (fz (cD c)) none) (eL c) (Bok bd.length W) (a_ bd W w c) s h fun s hs x hx=>
  ⟨hs.step ((dS hw).mp hx).1,_,rfl,Ft hg hs⟩
 refine⟨h1,(bp (fM ?_ e)).trans rfl⟩
 show (ak 3 cy (aC (dV 0) (aC (dV 6) (aC (dV 2) aN))) (sb (brd bd) (cD a) (.int (w:Int)) s.ks s.ps r (some (.ow (.lst (s.fu.map cD)))) (fz (cD c)) none)>>=lstM)=_
 have e2:ak 3 cy (aC (dV 0) (aC (dV 6) (aC (dV 2) aN))) (sb (brd bd) (cD a) (.int (w:Int)) s.ks s.ps r (some (.ow (.lst (s.fu.map cD)))) (fz (cD c)) none)=M.ret (.lst ((a_ bd W w c).map cD)):=oq hg hw hc
 rw[e2]
 rfl
def KY:DS:=cI [5,6,7] (aA (tV 5) (aA (eD (putN 6) (dU (dV 4)) Ik) (zc 5 (bD 4 (dV 5)))))
theorem Fs{bd:List Str}{W w:Nat}(hg:Brd bd W)(hw:Ways w){a:Cell}{ring:List Cell}(hr:∀c∈ring,On bd.length W c){s:Bk Cell}(h:Bok bd.length W s)(hf:s.fu=[]):
 Bok bd.length W (cP (a_ bd W w) s ring)∧KY (sb (brd bd) (cD a) (.int (w:Int)) s.ks s.ps (fz (.lst (ring.map cD))) none none none)=
  M.ret (.nx (sb (brd bd) (cD a) (.int (w:Int)) (cP (a_ bd W w) s ring).ks (cP (a_ bd W w) s ring).ps (fz (.lst ((cP (a_ bd W w) s ring).fu.map cD))) none none none)):=by
 obtain⟨h1,e⟩:=ly (put:=putN 6) (body:=Ik) cD (fun s:Bk Cell=>sb (brd bd) (cD a) (.int (w:Int)) s.ks s.ps (fz (.lst (ring.map cD))) (some (.ow (.lst (s.fu.map cD)))) none none) (l7 (a_ bd W w)) (Bok bd.length W) ring s h fun s hs c hc=>
  ⟨(zd (a:=a) (r:=fz (.lst (ring.map cD))) hg hw (hr c hc) hs).1,_,rfl,(zd hg hw (hr c hc) hs).2⟩
 refine⟨h1,(bp (ρ':=sb (brd bd) (cD a) (.int (w:Int)) (cP (a_ bd W w) s ring).ks (cP (a_ bd W w) s ring).ps (fz (.lst ((cP (a_ bd W w) s ring).fu.map cD))) (fz (.lst ((cP (a_ bd W w) s ring).fu.map cD))) none none) ?_).trans rfl⟩
 refine ao (ρ':=sb (brd bd) (cD a) (.int (w:Int)) s.ks s.ps (fz (.lst (ring.map cD))) (some (.ow (.lst []))) none none) rfl (ao (ρ':=sb (brd bd) (cD a) (.int (w:Int)) (cP (a_ bd W w) s ring).ks (cP (a_ bd W w) s ring).ps (fz (.lst (ring.map cD))) (some (.ow (.lst ((cP (a_ bd W w) s ring).fu.map cD)))) none none) ?_ rfl)
 rw[hf] at e
 exact fM rfl e
theorem vV{bd:List Str}{W w:Nat}(hg:Brd bd W)(hw:Ways w){a:Cell}(ha:On bd.length W a):∀(fuel k:Nat) (ks:List Cell) (ps:List (Option Cell)) (ring:List Cell),bd.length*W+2≤fuel+k→Rng (a_ bd W w) a k ks ps ring→(∀x∈ks,On bd.length W x)→
 ∃k' ks' LL,Rng (a_ bd W w) a k' ks' LL []∧(∀x∈ks',On bd.length W x)∧eE (cx (dV 4)) KY fuel (sb (brd bd) (cD a) (.int (w:Int)) ks ps (fz (.lst (ring.map cD))) none none none)=M.ret (.nx (sb (brd bd) (cD a) (.int (w:Int)) ks' LL (fz (.lst [])) none none none))
 |0,k,ks,ps,ring,hf,hR,p6=>by
  have h1:ks.length≤bd.length*W:=by
   rw[←cB bd.length W]
   exact fJ hR.nd fun x hx=>aQ.mpr (p6 x hx)
  have:=hR.sz.1
  omega
 |fuel+1,k,ks,ps,[],hf,hR,p6=>⟨k,ks,ps,hR,p6,we rfl⟩
 |fuel+1,k,ks,ps,c::ring,hf,hR,p6=>by
  have il:c::ring≠[]:=by simp
  have hN:=hR.next il
  have MJ:∀x∈c::ring,On bd.length W x:=fun x hx=>p6 x ((hR.mem x).mpr ((hR.rg x).mp hx).1)
  obtain⟨hb,e⟩:=Fs (a:=a) hg hw MJ (s:=⟨ks,ps,[]⟩) ⟨hR.len,hR.nd,p6,Nat.zero_le _⟩ rfl
  obtain⟨k',ks',LL,q1,q2,q3⟩:=vV hg hw ha fuel (k+1) _ _ _ (by omega) hN hb.on
  exact⟨k',ks',LL,q1,q2,pL rfl e q3⟩
theorem pE{bd:List Str}{W w:Nat}(hg:Brd bd W)(hw:Ways w){a:Cell}(ha:On bd.length W a):
 ∃k ks ps,Rng (a_ bd W w) a k ks ps []∧(∀x∈ks,On bd.length W x)∧cz [brd bd,cD a, .int (w:Int)]=M.ret (yr ks ps):=by
 have hm:bd.length*W≤64:=Nat.mul_le_mul hg.r8 hg.w8
 obtain⟨k,ks,ps,h1,h2,h3⟩:=vV hg hw ha lim 0 [a] [none] [a] (by rw[dh];omega) (Rng.zero _ _) (fun x hx=>(show x=a by simpa using hx)▸ha)
 refine⟨k,ks,ps,h1,h2,aS (ao (ρ':=[fz (brd bd),fz (cD a),fz (.int (w:Int)),some (.ow (AV [a] [none])),none,none,none,none]) rfl (ao (ρ':=sb (brd bd) (cD a) (.int (w:Int)) [a] [none] (fz (.lst [cD a])) none none none) rfl (ao (ρ':=sb (brd bd) (cD a) (.int (w:Int)) ks ps (fz (.lst [])) none none none) (dF h3) rfl)))⟩
def j5{α:Type}[DecidableEq α](n:Nat)(enc:α→D):Prop:=∀k x y,p0 (n+k) (enc x) (enc y)=some (decide (x=y))
theorem yz(n:Nat)(i j:Str):p0 n (.str i) (.str j)=some (i==j):=by cases n<;>rfl
theorem sm{α:Type}[DecidableEq α]{enc:α→D}{f:D→D→Option Bool}(h:∀x y,f (enc x) (enc y)=some (decide (x=y))):∀(xs ys:List α),uQ f (xs.map enc) (ys.map enc)=some (decide (xs=ys))
 |[],[]=>rfl
 |[],_::_=>by simp[uQ]
 |_::_,[]=>by simp[uQ]
 |x::xs,y::ys=>by
  rw[List.map_cons,List.map_cons]
  show (match f (enc x) (enc y),uQ f (xs.map enc) (ys.map enc) with | some b,some r=>some (b&&r) | _,_=>none)=_
  rw[h,sm h xs ys]
  show some (decide (x=y)&&decide (xs=ys))=_
  congr 1
  by_cases h1:x=y<;>by_cases h2:xs=ys<;>simp[h1,h2]
theorem D0{α:Type}[DecidableEq α]{enc:α→D}{n:Nat}(h:j5 n enc):j5 (n+1) (fun l:List α=> .lst (l.map enc)):=fun k x y=>by
 rw[show n+1+k=(n+k)+1 by omega]
 exact sm (h k) x y
theorem D2{α:Type}[DecidableEq α]{enc:α→D}{n:Nat}(h:j5 n enc):j5 (n+1) (fun l:List α=> .tup (l.map enc)):=fun k x y=>by
 rw[show n+1+k=(n+k)+1 by omega]
 exact sm (h k) x y
theorem D1:j5 0 D.str:=fun k x y=>by
 rw[yz]
 congr 1
theorem je:j5 1 brd:=D2 D1
theorem L1{α:Type}[DecidableEq α]{enc:α→D}{n:Nat}(h:j5 n enc)(hn:n≤6)(x y:α):nu (enc x) (enc y)=M.ret (.bl (decide (x=y))):=by
 have:=h (6 - n) x y
 rw[show n+(6 - n)=6 by omega] at this
 unfold nu
 rw[this]
theorem jR{α:Type}[DecidableEq α]{enc:α→D}{n:Nat}(h:j5 n enc)(hn:n≤6)(x y:α):qJ (enc x) (enc y)=M.ret (.bl (!decide (x=y))):=by
 have:=h (6 - n) x y
 rw[show n+(6 - n)=6 by omega] at this
 unfold qJ
 rw[this]
abbrev cL(l:List Cell):D:= .lst (l.map cD)
def ic(c:Cell):List Int:=[(c.1:Int),(c.2:Int)]
def A4(a b:Cell):Bool:=if a.1=b.1 then decide (a.2<b.2) else decide (a.1<b.1)
def Ef(k:Cell):List Cell→List Cell
 |[]=>[k]
 |x::r=>if A4 k x then k::x::r else x::Ef k r
def pC:List Cell→List Cell
 |[]=>[]
 |k::r=>Ef k (pC r)
theorem xh(a b:Cell):et (ic a) (ic b)=A4 a b:=by
 show (if (a.1:Int)=(b.1:Int) then(if (a.2:Int)=(b.2:Int) then false else decide ((a.2:Int)<(b.2:Int))) else decide ((a.1:Int)<(b.1:Int)))=_
 unfold A4
 by_cases h:a.1=b.1
 ·rw[if_pos h,if_pos (by omega)]
  by_cases h2:a.2=b.2
  ·rw[if_pos (by omega),h2];simp
  ·rw[if_neg (by omega)]
   by_cases h3:a.2<b.2
   ·rw[decide_eq_true h3,decide_eq_true (by omega)]
   ·rw[decide_eq_false h3,decide_eq_false (by omega)]
 ·rw[if_neg h,if_neg (by omega)]
  by_cases h3:a.1<b.1
  ·rw[decide_eq_true h3,decide_eq_true (by omega)]
  ·rw[decide_eq_false h3,decide_eq_false (by omega)]
theorem BH(k:Cell):∀l:List Cell,insI (ic k) (l.map ic)=(Ef k l).map ic
 |[]=>rfl
 |x::r=>by
  rw[List.map_cons]
  unfold insI Ef
  rw[xh]
  cases A4 k x with
  |true=>rfl
  |false=>rw[if_neg (by decide),if_neg (by decide),List.map_cons,BH k r]
theorem nE:∀l:List Cell,sortI (l.map ic)=(pC l).map ic
 |[]=>rfl
 |k::r=>by
  rw[List.map_cons]
  unfold sortI pC
  rw[nE r,BH]
theorem sD{a b:Cell}(h:ic a=ic b):a=b:=by
 unfold ic at h
 injection h with h1 h2
 injection h2 with h2 _
 exact Prod.ext (Int.ofNat.inj h1) (Int.ofNat.inj h2)
theorem z5{x:Cell}{l:List Cell}:x∈pC l↔x∈l:=by
 have h:=gJ (x:=ic x) (l:=l.map ic)
 rw[nE] at h
 constructor
 ·intro hx
  obtain⟨y,hy,e⟩:=List.mem_map.mp (h.mp (List.mem_map.mpr ⟨x,hx,rfl⟩))
  rw[←sD e];exact hy
 ·intro hx
  obtain⟨y,hy,e⟩:=List.mem_map.mp (h.mpr (List.mem_map.mpr ⟨x,hx,rfl⟩))
  rw[←sD e];exact hy
def RiseC(l:List Cell):Prop:=l.Pairwise fun a b=>A4 a b=true
theorem tU{l:List Cell}:wH (l.map ic)↔RiseC l:=by
 unfold wH RiseC
 rw[List.pairwise_map]
 constructor<;>intro h<;>refine List.Pairwise.imp ?_ h<;>intro a b q
 ·rw[←xh];exact q
 ·rw[xh];exact q
theorem vo{l:List Cell}(h:l.Nodup):(l.map ic).Nodup:=by
 unfold List.Nodup at h⊢
 rw[List.pairwise_map]
 exact List.Pairwise.imp (fun h z=>h (sD z)) h
theorem xV{l:List Cell}(h:l.Nodup):RiseC (pC l):=by
 have:=j4 (vo h)
 rw[nE] at this
 exact tU.mp this
theorem rL{a b:List Cell}(ha:RiseC a)(hb:RiseC b)(h:∀x,x∈a↔x∈b):a=b:=by
 have e:=pf (tU.mpr ha) (tU.mpr hb) fun x=>by
  constructor
  ·intro hx
   obtain⟨y,hy,rfl⟩:=List.mem_map.mp hx
   exact List.mem_map.mpr ⟨y,(h y).mp hy,rfl⟩
  ·intro hx
   obtain⟨y,hy,rfl⟩:=List.mem_map.mp hx
   exact List.mem_map.mpr ⟨y,(h y).mpr hy,rfl⟩
 have inj:∀(a b:List Cell),a.map ic=b.map ic→a=b:=by
  intro a
  induction a with
  |nil=>intro b h;cases b with
   |nil=>rfl
   |cons=>simp at h
  |cons x a ih=>intro b h;cases b with
   |nil=>simp at h
   |cons y b=>
    rw[List.map_cons,List.map_cons] at h
    injection h with h1 h2
    rw[sD h1,ih b h2]
 exact inj a b e
theorem RiseC.nodup{l:List Cell}(h:RiseC l):l.Nodup:=by
 refine List.Pairwise.imp ?_ h
 intro a b q z
 subst z
 unfold A4 at q
 rw[if_pos rfl] at q
 have:=of_decide_eq_true q
 omega
theorem lD:∀ks:List Cell,fG (ks.map keyOf)=some (ks.map ic)
 |[]=>rfl
 |k::r=>by
  show (match qN (keyOf k),fG (r.map keyOf) with | some x,some xs=>some (x::xs) | _,_=>none)=_
  rw[lD r]
  rfl
theorem Kk{ks:List Cell}(h:ks.Nodup)(hl:ks.length<64):iN (ks.map ic)=true:=by
 unfold iN
 rw[List.length_map,decide_eq_true (vo h),decide_eq_true hl]
 simp
 intro a b _ z
 cases z
theorem De{ks:List Cell}{ds:List D}(h:ks.Nodup)(hl:ks.length<64):rQ [.dct (ks.map keyOf) ds]=M.ret (cL (pC ks)):=by
 show (match fG (ks.map keyOf) with | some ks=>if iN ks&&ks.all (fun k=>decide (k.length≤lim)) then M.ret (D.lst ((sortI ks).map tupI)) else M.stuck | none=>M.stuck)=_
 rw[lD]
 show (if iN (ks.map ic)&&(ks.map ic).all (fun k=>decide (k.length≤lim)) then M.ret (D.lst ((sortI (ks.map ic)).map tupI)) else M.stuck)=_
 rw[Kk h hl]
 have:(ks.map ic).all (fun k=>decide (k.length≤lim))=true:=by
  simp
  intro a b _
  show 2≤lim
  decide
 rw[this,Bool.and_true,if_pos rfl,nE,List.map_map]
 rfl
def Cn(bd:List Str)(W w:Nat)(a b:Cell):Prop:=∃j,Rb (a_ bd W w) a j b
theorem Cn.refl{bd:List Str}{W w:Nat}{a:Cell}:Cn bd W w a a:=⟨0,rfl⟩
theorem xi{bd:List Str}{W w:Nat}(hw:Ways w){a b:Cell}(ha:On bd.length W a)(h:b∈a_ bd W w a):a∈a_ bd W w b:=by
 obtain⟨h1,h2,h3⟩:=(dS hw).mp h
 exact(dS hw).mpr ⟨ha,by rw[iL];exact h2,h3.symm⟩
theorem zb{bd:List Str}{W w:Nat}(hw:Ways w){a b:Cell}(ha:On bd.length W a):∀{j:Nat},Rb (a_ bd W w) a j b→On bd.length W b
 |0,h=>by rw[show b=a from h];exact ha
 |j+1, .inl h=>zb hw ha h
 |j+1, .inr ⟨y,_,hy⟩=>((dS hw).mp hy).1
theorem pd{bd:List Str}{W w:Nat}{a c b:Cell}(h:c∈a_ bd W w a):∀{j:Nat},Rb (a_ bd W w) c j b→Rb (a_ bd W w) a (j+1) b
 |0,q=> .inr ⟨a,rfl,by rw[show b=c from q];exact h⟩
 |j+1, .inl q=> .inl (pd h q)
 |j+1, .inr ⟨y,q,hy⟩=> .inr ⟨y,pd h q,hy⟩
theorem tP{bd:List Str}{W w:Nat}(hw:Ways w){a b:Cell}(ha:On bd.length W a):∀{j:Nat},Rb (a_ bd W w) a j b→Rb (a_ bd W w) b j a
 |0,h=>show a=b from(show b=a from h).symm
 |j+1, .inl h=> .inl (tP hw ha h)
 |j+1, .inr ⟨y,q,hy⟩=>pd (xi hw (zb hw ha q) hy) (tP hw ha q)
theorem pe{bd:List Str}{W w:Nat}{a b c:Cell}{i:Nat}(h:Rb (a_ bd W w) a i b):∀{j:Nat},Rb (a_ bd W w) b j c→Rb (a_ bd W w) a (i+j) c
 |0,q=>by rw[show c=b from q];exact h
 |j+1, .inl q=> .inl (pe h q)
 |j+1, .inr ⟨y,q,hy⟩=> .inr ⟨y,pe h q,hy⟩
theorem lR{bd:List Str}{W w:Nat}(hw:Ways w){a b:Cell}:∀{j:Nat},Rb (a_ bd W w) a j b→lt bd b=lt bd a
 |0,h=>by rw[show b=a from h]
 |j+1, .inl h=>lR hw h
 |j+1, .inr ⟨y,q,hy⟩=>((dS hw).mp hy).2.2.trans (lR hw q)
section
variable{bd:List Str}{W w:Nat}{a b c:Cell}
theorem Cn.on(hw:Ways w)(ha:On bd.length W a)(h:Cn bd W w a b):On bd.length W b:=let ⟨_,q⟩:=h;zb hw ha q
theorem Cn.symm(hw:Ways w)(ha:On bd.length W a)(h:Cn bd W w a b):Cn bd W w b a:=let ⟨j,q⟩:=h;⟨j,tP hw ha q⟩
theorem Cn.trans(h:Cn bd W w a b)(h2:Cn bd W w b c):Cn bd W w a c:=let ⟨i,q⟩:=h;let ⟨j,r⟩:=h2;⟨i+j,pe q r⟩
theorem Cn.letter(hw:Ways w)(h:Cn bd W w a b):lt bd b=lt bd a:=let ⟨_,q⟩:=h;lR hw q
theorem Cn.step(h:Cn bd W w a b)(h2:c∈a_ bd W w b):Cn bd W w a c:=let ⟨j,q⟩:=h;⟨j+1, .inr ⟨b,q,h2⟩⟩
end
structure IsPatch (bd:List Str) (W w:Nat) (a:Cell) (P:List Cell):Prop where
 rise:RiseC P
 mem:∀x,x∈P↔Cn bd W w a x
theorem IsPatch.one{bd:List Str}{W w:Nat}{a:Cell}{P Q:List Cell}(h:IsPatch bd W w a P)(h2:IsPatch bd W w a Q):P=Q:=rL h.rise h2.rise fun x=>(h.mem x).trans (h2.mem x).symm
theorem jd{bd:List Str}{W:Nat}{ks:List Cell}(hn:ks.Nodup)(p6:∀x∈ks,On bd.length W x):ks.length≤bd.length*W:=by
 rw[←cB bd.length W]
 exact fJ hn fun x hx=>aQ.mpr (p6 x hx)
def I_(w:Nat):List Cell→Bool
 |a::b::r=>f6 w a b&&I_ w (b::r)
 |_=>true
structure IsWay (bd:List Str) (W w:Nat) (a b:Cell) (p:List Cell):Prop where
 on:∀x∈p,On bd.length W x
 hd:p.head? =some a
 lst:p.getLast? =some b
 let':∀x∈p,lt bd x=lt bd a
 Q0:I_ w p=true
theorem uA{α:Type}{l:List α}{x:α}:L2.atI (l++[x]) (-1)=some x:=by
 unfold L2.atI BR
 rw[if_neg (by decide)]
 have: -((l++[x]).length:Int)≤ -1:=by simp;omega
 rw[if_pos this]
 have e:((-1:Int)+((l++[x]).length:Int)).toNat=l.length:=by simp;omega
 show (l++[x])[((-1:Int)+((l++[x]).length:Int)).toNat]? =some x
 rw[e]
 simp
theorem J8{l:List Cell}{x:Cell}:c7 (cL (l++[x])) (.int (-1))=M.ret (cD x):=by
 show (match L2.atI ((l++[x]).map cD) (-1) with | some d=>M.ret d | none=>M.stuck)=_
 rw[List.map_append,show [x].map cD=[cD x] from rfl,uA]
theorem BQ{l:List Cell}{i:Nat}{x:Cell}(h:l[i]? =some x):c7 (cL l) (.int (i:Int))=M.ret (cD x):=by
 show (match L2.atI (l.map cD) (i:Int) with | some d=>M.ret d | none=>M.stuck)=_
 rw[dW (x:=cD x) (by rw[List.getElem?_map,h];rfl)]
structure Trail (nb:Cell→List Cell) (b:Cell) (p:List Cell) (x:Cell):Prop where
 hd:p.head? =some x
 lst:p.getLast? =some b
 ch:∀l r u v,p=l++u::v::r→u∈nb v
abbrev wr(bd w a b k t:D):a5:=[fz bd,fz w,fz a,fz b,fz k,fz t]
theorem eo{α:Type}{f:D→M (Option D)}(enc:α→D)(g:α→D):∀(xs:List α),(∀x∈xs,f (enc x)=M.ret (some (g x)))→di f (xs.map enc)=M.ret (xs.map g)
 |[],_=>rfl
 |x::xs,h=>by
  rw[List.map_cons,el,h x (List.mem_cons_self ..),au,eo enc g xs fun y hy=>h y (List.mem_cons_of_mem _ hy)]
  rfl
theorem OA{ρ:a5}{i:Nat}{ds:List D}(h:ρ[i]? =some (fz (.lst ds))):dU (dV i) ρ=M.ret ds:=by
 unfold dU
 rw[jQ h]
 rfl
def bP(ks:List Cell)(c:Cell):List Cell:=if c∈ks then ks else ks++[c]
def bF(l:List Cell):List Cell:=l.foldl bP []
def aJ(ks:List Cell):List D:=ks.map fun _=> .bl true
theorem fq{ks:List Cell}{c x:Cell}:x∈bP ks c↔x∈ks∨x=c:=by
 unfold bP
 split
 ·rename_i h
  exact⟨.inl,fun q=>q.elim id fun e=>by rw[e];exact h⟩
 ·simp
theorem ke:∀(l ks:List Cell),(ks.Nodup→(l.foldl bP ks).Nodup)∧(∀x,x∈l.foldl bP ks↔x∈ks∨x∈l)∧(l.foldl bP ks).length≤ks.length+l.length
 |[],ks=>⟨id,fun x=>by simp,by simp⟩
 |c::l,ks=>by
  obtain⟨h1,h2,h3⟩:=ke l (bP ks c)
  refine⟨fun hn=>h1 ?_,fun x=>?_,?_⟩
  ·unfold bP
   split
   ·exact hn
   ·rename_i hc
    refine List.nodup_append.mpr ⟨hn,by simp,fun y hy z hz e=>?_⟩
    have hz:z=c:=by simpa using hz
    rw[e,hz] at hy
    exact hc hy
  ·rw[List.foldl_cons,h2 x,fq]
   simp[or_assoc]
  ·rw[List.foldl_cons,List.length_cons]
   have:(bP ks c).length≤ks.length+1:=by unfold bP;split<;>simp
   omega
theorem jl{l:List Cell}{x:Cell}:x∈bF l↔x∈l:=by
 unfold bF
 rw[(ke l []).2.1 x]
 simp
theorem B4(l:List Cell):(bF l).Nodup:=(ke l []).1 List.nodup_nil
theorem zX(l:List Cell):(bF l).length≤l.length:=by have:=(ke l []).2.2;simpa[bF] using this
theorem rK{k:List Key}:∀{ks:List (List Key)}{l:List Cell},ks.length=l.length→lU ks (aJ l) k (.bl true)=aJ l
 |[],[],_=>rfl
 |k'::ks,c::l,h=>by
  show (if k'=k then D.bl true else D.bl true)::lU ks (aJ l) k (.bl true)=_
  rw[rK (by simpa using h)]
  split<;>rfl
 |[],_::_,h=>by simp at h
 |_::_,[],h=>by simp at h
theorem CW{ks:List Cell}{c:Cell}(hl:ks.length<lim):lQ (.dct (ks.map keyOf) (aJ ks)) (cD c) (.bl true)=some (.dct ((bP ks c).map keyOf) (aJ (bP ks c))):=by
 have hlen:(aJ ks).length=ks.length:=by simp[aJ]
 unfold bP
 by_cases h:c∈ks
 ·rw[if_pos h]
  show (match jw (cD c) with | some kk=>if (aJ ks).length<lim then some (C.dct (df (ks.map keyOf) (aJ ks) kk) (cu (ks.map keyOf) (aJ ks) kk (.bl true))) else none | none=>none)=_
  rw[gP]
  show (if (aJ ks).length<lim then some (C.dct (df (ks.map keyOf) (aJ ks) (keyOf c)) (cu (ks.map keyOf) (aJ ks) (keyOf c) (.bl true))) else none)=_
  rw[if_pos (by rw[hlen];exact hl)]
  obtain⟨d,e,_⟩:=lZ (ds:=aJ ks) hlen.symm h
  unfold df cu
  rw[e]
  show some (C.dct (ks.map keyOf) (lU (ks.map keyOf) (aJ ks) (keyOf c) (.bl true)))=_
  rw[rK (by simp)]
 ·rw[if_neg h,vL h (by rw[hlen];exact hl)]
  simp[aJ]
abbrev xg(l:List Cell):D:= .dct ((bF l).map keyOf) (aJ (bF l))
theorem qT{l:List Cell}(hl:l.length<4000):fS [cL l]=M.ret (xg l):=by
 have e:∀(xs ks:List Cell),ks.length+xs.length<4000→forL (putN 2) (cI [2] (ig 1 (dV 2) (dC (.bl true)))) (xs.map cD) [fz (cL l),some (.ow (.dct (ks.map keyOf) (aJ ks))),none]=M.ret (.nx [fz (cL l),some (.ow (.dct ((xs.foldl bP ks).map keyOf) (aJ (xs.foldl bP ks)))),none]):=by
  intro xs
  induction xs with
  |nil=>intro ks _;rfl
  |cons x xs ih=>
   intro ks hk
   rw[List.length_cons] at hk
   have hle:(bP ks x).length≤ks.length+1:=by unfold bP;split<;>simp
   refine(cM (ρ1:=[fz (cL l),some (.ow (.dct (ks.map keyOf) (aJ ks))),fz (cD x)]) (ρ2:=[fz (cL l),some (.ow (.dct ((bP ks x).map keyOf) (aJ (bP ks x)))),none]) rfl ?_).trans (ih (bP ks x) (by omega))
   refine(bp (ρ':=[fz (cL l),some (.ow (.dct ((bP ks x).map keyOf) (aJ (bP ks x)))),fz (cD x)]) ?_).trans rfl
   show (match lQ (.dct (ks.map keyOf) (aJ ks)) (cD x) (.bl true) with | some c'=>M.ret (Out.nx [fz (cL l),some (.ow c'),fz (cD x)]) | none=>M.stuck)=_
   rw[CW (by rw[dh];omega)]
 refine aS (ao (ρ':=[fz (cL l),some (.ow (.dct [] [])),none]) rfl (ao (ρ':=[fz (cL l),some (.ow (.dct ((bF l).map keyOf) (aJ (bF l)))),none]) (dF (fM (ds:=l.map cD) rfl (e l [] (by simpa using hl)))) rfl))
section
variable{bd:List Str}{W w:Nat}{a b c:Cell}{p q:List Cell}
end
theorem Kc(a b:Nat):L5 (.int (a:Int)) (.int (b:Int))=M.ret (.bl (decide (b<a))):=by
 show M.ret (D.bl (decide ((b:Int)<(a:Int))))=_
 congr 2
 rw[decide_eq_decide]
 omega
def DZ(ks:List Cell)(f:Cell→D):C:= .dct (ks.map keyOf) (ks.map f)
def zE(ks:List Cell)(f:Cell→D):D:= .dct (ks.map keyOf) (ks.map f)
def fg(f:Cell→D)(x:Cell)(d:D):Cell→D:=fun y=>if y=x then d else f y
theorem kP{f:Cell→D}{x:Cell}:∀{ks:List Cell},x∈ks→eV (ks.map keyOf) (ks.map f) (keyOf x)=some (f x)
 |y::ks,h=>by
  show (if keyOf y=keyOf x then some (f y) else eV (ks.map keyOf) (ks.map f) (keyOf x))=_
  by_cases e:y=x
  ·subst e;rw[if_pos rfl]
  ·rw[if_neg (fun z=>e (jh z))]
   rcases List.mem_cons.mp h with q | q
   ·exact absurd q.symm e
   ·exact kP q
theorem BP{ks:List Cell}{f:Cell→D}{x:Cell}(h:x∈ks):jT (zE ks f) (cD x)=M.ret (f x):=by
 show (match ((jw (cD x)).map fun k=>eV (ks.map keyOf) (ks.map f) k) with | some (some v)=>M.ret v | _=>M.stuck)=_
 rw[gP]
 show (match some (eV (ks.map keyOf) (ks.map f) (keyOf x)) with | some (some v)=>M.ret v | _=>M.stuck)=_
 rw[kP h]
theorem D3{ks:List Cell}{f:Cell→D}{x:Cell}{v:D}(h:x∈ks):getM (zE ks f) (cD x) v=M.ret (f x):=by
 show (match ((jw (cD x)).map fun k=>eV (ks.map keyOf) (ks.map f) k) with | some (some x)=>M.ret x | some none=>M.ret v | none=>M.stuck)=_
 rw[gP]
 show (match some (eV (ks.map keyOf) (ks.map f) (keyOf x)) with | some (some x)=>M.ret x | some none=>M.ret v | none=>M.stuck)=_
 rw[kP h]
theorem Bu{ks:List Cell}{f:Cell→D}{x:Cell}{v:D}(h:x∉ks):getM (zE ks f) (cD x) v=M.ret v:=by
 show (match ((jw (cD x)).map fun k=>eV (ks.map keyOf) (ks.map f) k) with | some (some x)=>M.ret x | some none=>M.ret v | none=>M.stuck)=_
 rw[gP]
 show (match some (eV (ks.map keyOf) (ks.map f) (keyOf x)) with | some (some x)=>M.ret x | some none=>M.ret v | none=>M.stuck)=_
 rw[fo h]
theorem tT{f:Cell→D}{x:Cell}{d:D}:∀{ks:List Cell},lU (ks.map keyOf) (ks.map f) (keyOf x) d=ks.map (fg f x d)
 |[]=>rfl
 |y::ks=>by
  show (if keyOf y=keyOf x then d else f y)::lU (ks.map keyOf) (ks.map f) (keyOf x) d=_
  rw[tT,List.map_cons]
  congr 1
  unfold fg
  by_cases e:y=x
  ·subst e;rw[if_pos rfl,if_pos rfl]
  ·rw[if_neg (fun z=>e (jh z)),if_neg e]
theorem Fi{ks:List Cell}{f:Cell→D}{x:Cell}{d:D}(hl:ks.length<lim):lQ (DZ ks f) (cD x) d=some (DZ (bP ks x) (fg f x d)):=by
 show (match jw (cD x) with | some kk=>if (ks.map f).length<lim then some (C.dct (df (ks.map keyOf) (ks.map f) kk) (cu (ks.map keyOf) (ks.map f) kk d)) else none | none=>none)=_
 rw[gP]
 show (if (ks.map f).length<lim then some (C.dct (df (ks.map keyOf) (ks.map f) (keyOf x)) (cu (ks.map keyOf) (ks.map f) (keyOf x) d)) else none)=_
 rw[if_pos (by rw[List.length_map];exact hl)]
 unfold DZ bP df cu
 by_cases h:x∈ks
 ·rw[kP h,if_pos h]
  show some (C.dct (ks.map keyOf) (lU (ks.map keyOf) (ks.map f) (keyOf x) d))=_
  rw[tT]
 ·rw[fo h,if_neg h]
  show some (C.dct (ks.map keyOf++[keyOf x]) (ks.map f++[d]))=_
  have e1:ks.map f=ks.map (fg f x d):=List.map_congr_left fun y hy=>by
   unfold fg;rw[if_neg (fun z:y=x=>h (z▸hy))]
  have e2:(ks++[x]).map (fg f x d)=ks.map (fg f x d)++[d]:=by
   rw[List.map_append]
   congr 1
   show [fg f x d x]=[d]
   unfold fg;rw[if_pos rfl]
  rw[List.map_append,e1,e2]
  rfl
theorem y9{i:Nat}{δk δv:DE}{ρ:a5}{ks:List Cell}{f:Cell→D}{x:Cell}{d:D}(h0:ρ[i]? =some (some (.ow (DZ ks f))))(hv:δv ρ=M.ret d)(hk:δk ρ=M.ret (cD x))(hl:ks.length<lim):
 ig i δk δv ρ=M.ret (.nx (ρ.set i (some (.ow (DZ (bP ks x) (fg f x d)))))):=by
 unfold ig xE
 rw[h0]
 show (δv ρ>>=fun v=>δk ρ>>=fun k=>match lQ (DZ ks f) k v with | some c'=>M.ret (Out.nx (ρ.set i (some (.ow c')))) | none=>M.stuck)=_
 rw[hv,au,hk,au,Fi hl]
def rank(W:Nat)(x:Cell):Nat:=x.1*W+x.2
theorem gr{R W:Nat}{a b:Cell}(ha:On R W a)(hb:On R W b):A4 a b=true↔rank W a<rank W b:=by
 unfold A4 rank
 have h1:=ha.2
 have h2:=hb.2
 by_cases h:a.1=b.1
 ·rw[if_pos h,decide_eq_true_eq,h];omega
 ·rw[if_neg h,decide_eq_true_eq]
  constructor
  ·intro q
   have:(a.1+1)*W≤b.1*W:=Nat.mul_le_mul_right _ q
   rw[Nat.add_mul,Nat.one_mul] at this
   omega
  ·intro q
   refine Classical.byContradiction fun z=>?_
   have:(b.1+1)*W≤a.1*W:=Nat.mul_le_mul_right _ (by omega)
   rw[Nat.add_mul,Nat.one_mul] at this
   omega
theorem vN{R W:Nat}{a b:Cell}(ha:On R W a)(hb:On R W b)(h:rank W a=rank W b):a=b:=by
 have n1:¬A4 a b=true:=fun z=>by have:=(gr ha hb).mp z;omega
 have n2:¬A4 b a=true:=fun z=>by have:=(gr hb ha).mp z;omega
 unfold A4 at n1 n2
 obtain⟨a1,a2⟩:=a
 obtain⟨b1,b2⟩:=b
 simp only at n1 n2
 by_cases h1:a1=b1
 ·rw[if_pos h1,decide_eq_true_eq] at n1
  rw[if_pos h1.symm,decide_eq_true_eq] at n2
  rw[Prod.mk.injEq];exact⟨h1,by omega⟩
 ·rw[if_neg h1,decide_eq_true_eq] at n1
  rw[if_neg (Ne.symm h1),decide_eq_true_eq] at n2
  omega
section
variable{bd:List Str}{W w:Nat}
structure Lab (bd:List Str) (W w:Nat) (L:Cell→Cell):Prop where
 on:∀x,On bd.length W x→On bd.length W (L x)
 cn:∀x,On bd.length W x→Cn bd W w x (L x)
 le:∀x,On bd.length W x→rank W (L x)≤rank W x
def mu(R W:Nat)(L:Cell→Cell):Nat:=((aU R W).map fun x=>rank W (L x)).sum
end
theorem M3{δ:DE}{ρ:a5}{l:List Cell}(h:δ ρ=M.ret (cL l)):dU δ ρ=M.ret (l.map cD):=by
 show (δ ρ>>=lstM)=_
 rw[h]
 rfl
theorem iw(R W:Nat):RiseC (aU R W):=by
 unfold RiseC aU cY
 rw[List.pairwise_flatMap]
 constructor
 ·intro r _
  rw[List.pairwise_map]
  exact List.pairwise_lt_range.imp fun h=>by show (if _ then _ else _)=true;rw[if_pos rfl,decide_eq_true_eq];exact h
 ·refine List.pairwise_lt_range.imp fun {a b} h x hx y hy=>?_
  obtain⟨i,_,rfl⟩:=List.mem_map.mp hx
  obtain⟨j,_,rfl⟩:=List.mem_map.mp hy
  show (if a=b then _ else decide (a<b))=true
  rw[if_neg (by omega),decide_eq_true_eq]
  exact h
section
variable{bd:List Str}{W w:Nat}
def Least(bd:List Str)(W w:Nat)(x m:Cell):Prop:=Cn bd W w x m∧∀z,Cn bd W w x z→rank W m≤rank W z
end
theorem Jy:((aU 8 8).map fun c=>fU (ic c)).Nodup:=by decide+kernel
theorem rf{α β:Type}{f:α→β}:∀{l:List α},(l.map f).Nodup→∀a∈l,∀b∈l,f a=f b→a=b
 |x::l,h,a,ha,b,hb,e=>by
  rw[List.map_cons,List.nodup_cons] at h
  by_cases h1:a=x
  ·by_cases h2:b=x
   ·rw[h1,h2]
   ·have hb:b∈l:=(List.mem_cons.mp hb).resolve_left h2
    exact absurd (List.mem_map.mpr ⟨b,hb,by rw[←h1];exact e.symm⟩) h.1
  ·have ha:a∈l:=(List.mem_cons.mp ha).resolve_left h1
   by_cases h2:b=x
   ·exact absurd (List.mem_map.mpr ⟨a,ha,by rw[←h2];exact e⟩) h.1
   ·exact rf h.2 a ha b ((List.mem_cons.mp hb).resolve_left h2) e
theorem D5{R W:Nat}(hR:R≤8)(hW:W≤8){l:List Cell}(hn:l.Nodup)(p6:∀x∈l,On R W x):(l.map fun c=>fU (ic c)).Nodup:=by
 have h8:∀x∈l,x∈aU 8 8:=fun x hx=>aQ.mpr ⟨by have:=(p6 x hx).1;omega,by have:=(p6 x hx).2;omega⟩
 rw[List.Nodup,List.pairwise_map]
 refine List.Pairwise.imp_of_mem (fun {a b} ha hb h z=>h ?_) hn
 exact rf Jy a (h8 a ha) b (h8 b hb) z
theorem Ic{ks:List Cell}{f:Cell→D}{x:Cell}{d:D}:df (ks.map keyOf) (ks.map f) (keyOf x)=(bP ks x).map keyOf∧cu (ks.map keyOf) (ks.map f) (keyOf x) d=(bP ks x).map (fg f x d):=by
 unfold bP df cu
 by_cases h:x∈ks
 ·rw[kP h,if_pos h]
  exact⟨rfl,tT⟩
 ·rw[fo h,if_neg h]
  have e1:ks.map f=ks.map (fg f x d):=List.map_congr_left fun y hy=>by
   unfold fg;rw[if_neg (fun z:y=x=>h (z▸hy))]
  have e2:(ks++[x]).map (fg f x d)=ks.map (fg f x d)++[d]:=by
   rw[List.map_append]
   congr 1
   show [fg f x d x]=[d]
   unfold fg;rw[if_pos rfl]
  exact⟨by rw[List.map_append];rfl,by rw[e2,←e1];rfl⟩
theorem oE:∀(l ks:List Cell),b6 (ks.map keyOf) (aJ ks) (l.map keyOf) (aJ l)=((l.foldl bP ks).map keyOf,aJ (l.foldl bP ks))
 |[],ks=>rfl
 |x::l,ks=>by
  show b6 (df (ks.map keyOf) (aJ ks) (keyOf x)) (cu (ks.map keyOf) (aJ ks) (keyOf x) (.bl true)) (l.map keyOf) (aJ l)=_
  have h:=Ic (ks:=ks) (f:=fun _=>D.bl true) (x:=x) (d:= .bl true)
  have e:fg (fun _=>D.bl true) x (.bl true)=fun _=>D.bl true:=by
   funext y;unfold fg;split<;>rfl
  rw[e] at h
  rw[show aJ ks=ks.map (fun _=>D.bl true) from rfl,h.1,h.2]
  exact oE l (bP ks x)
theorem Bn{l ks:List Cell}(h:ks.Nodup):(l.foldl bP ks).Nodup:=(ke l ks).1 h
section
open Classical
variable{bd:List Str}{W w:Nat}
noncomputable def aY(bd:List Str)(W w:Nat)(m:Cell):List Cell:=(aU bd.length W).filter fun x=>decide (Cn bd W w m x)
noncomputable def b8(bd:List Str)(W w:Nat)(l:List Cell):List Cell:=l.filter fun x=>decide (Least bd W w x x)
theorem br(hw:Ways w){m:Cell}(hm:On bd.length W m):IsPatch bd W w m (aY bd W w m):=by
 refine⟨(iw _ _).filter _,fun x=>?_⟩
 unfold aY
 rw[List.mem_filter,aQ,decide_eq_true_eq]
 exact⟨fun h=>h.2,fun h=>⟨h.on hw hm,h⟩⟩
theorem Least.on(hw:Ways w){x m:Cell}(hx:On bd.length W x)(h:Least bd W w x m):On bd.length W m:=h.1.on hw hx
theorem Least.move(hw:Ways w){x y m:Cell}(hx:On bd.length W x)(h:Least bd W w x m)(hy:Cn bd W w x y):Least bd W w y m:=
 ⟨(hy.symm hw hx).trans h.1,fun z hz=>h.2 z (hy.trans hz)⟩
theorem Least.one(hw:Ways w){x m n:Cell}(hx:On bd.length W x)(h:Least bd W w x m)(h2:Least bd W w x n):m=n:=
 vN (h.on hw hx) (h2.on hw hx) (Nat.le_antisymm (h.2 n h2.1) (h2.2 m h.1))
theorem Least.self(hw:Ways w){x m:Cell}(hx:On bd.length W x)(h:Least bd W w x m):Least bd W w m m:=h.move hw hx h.1
variable(L:Cell→Cell)
theorem qV(hw:Ways w):∃L:Cell→Cell,∀x,On bd.length W x→Least bd W w x (L x):=by
 have h:∀x,∃m,On bd.length W x→Least bd W w x m:=fun x=>by
  by_cases hx:On bd.length W x
  ·have hP:=br hw hx
   cases hp:aY bd W w x with
   |nil=>have:=(hP.mem x).mpr Cn.refl;rw[hp] at this;cases this
   |cons m r=>
    rw[hp] at hP
    have hm:=(hP.mem m).mp (List.mem_cons_self ..)
    refine⟨m,fun _=>⟨hm,fun z hz=>?_⟩⟩
    rcases List.mem_cons.mp ((hP.mem z).mpr hz) with rfl | QA
    ·exact Nat.le_refl _
    ·exact Nat.le_of_lt ((gr (hm.on hw hx) (hz.on hw hx)).mp ((List.pairwise_cons.mp hP.rise).1 z QA))
  ·exact⟨x,fun z=>absurd z hx⟩
 exact⟨fun x=>Classical.choose (h x),fun x=>Classical.choose_spec (h x)⟩
noncomputable def kG(bd:List Str)(W w:Nat):D:= .lst ((b8 bd W w (aU bd.length W)).map fun m=>cL (aY bd W w m))
end
section
open Classical
variable{bd:List Str}{W w:Nat}
def NK:DS:=(cI [4,5] (gc (Gy (bS (d2 (iz true) (dV 4) (dV 3)))) (aA (bD 5 (dA rQ (aC (ak 3 cz (aC (dV 0) (aC (dV 4) (aC (dV 1) aN)))) aN))) (aA (jx 2 (dV 5)) (Au 3 (ak 1 fS (aC (dV 5) aN))))) cF))
noncomputable def zl(bd:List Str)(W w:Nat)(s:List Cell):List D:=(b8 bd W w s).map fun m=>cL (aY bd W w m)
noncomputable def DB(bd:List Str)(W w:Nat)(s ks:List Cell)(x4 x5:Option Sl):a5:=[fz (brd bd),fz (.int (w:Int)),some (.ow (.lst (zl bd W w s))),some (.ow (.dct (ks.map keyOf) (aJ ks))),x4,x5]
structure Seen (bd:List Str) (W w:Nat) (s ks:List Cell):Prop where
 nd:ks.Nodup
 on:∀y∈ks,On bd.length W y
 mem:∀y,y∈ks↔∃m∈b8 bd W w s,Cn bd W w m y
theorem Dw{i:Nat}{δ:DE}{ρ:a5}{ks l:List Cell}(h0:ρ[i]? =some (some (.ow (.dct (ks.map keyOf) (aJ ks)))))(hd:δ ρ=M.ret (xg l))(hz:ks.length+l.length≤4096)(hh:ks=[]→((bF l).map fun c=>fU (ic c)).Nodup):
 Au i δ ρ=M.ret (.nx (ρ.set i (some (.ow (.dct (((bF l).foldl bP ks).map keyOf) (aJ ((bF l).foldl bP ks))))))):=by
 unfold Au xE
 rw[h0]
 show (δ ρ>>=fun d=>match Dv (ks.map keyOf) (aJ ks) d with | some c'=>M.ret (Out.nx (ρ.set i (some (.ow c')))) | none=>M.stuck)=_
 rw[hd,au]
 have:Dv (ks.map keyOf) (aJ ks) (xg l)=some (.dct (((bF l).foldl bP ks).map keyOf) (aJ ((bF l).foldl bP ks))):=by
  show (match fG ((bF l).map keyOf) with | some ns=>if (aJ ks).length+(aJ (bF l)).length≤lim∧((ks.map keyOf).isEmpty=true→(ns.map fU).Nodup) then some (C.dct (b6 (ks.map keyOf) (aJ ks) ((bF l).map keyOf) (aJ (bF l))).1 (b6 (ks.map keyOf) (aJ ks) ((bF l).map keyOf) (aJ (bF l))).2) else none | none=>none)=_
  rw[lD]
  show (if (aJ ks).length+(aJ (bF l)).length≤lim∧((ks.map keyOf).isEmpty=true→(((bF l).map ic).map fU).Nodup) then some (C.dct (b6 (ks.map keyOf) (aJ ks) ((bF l).map keyOf) (aJ (bF l))).1 (b6 (ks.map keyOf) (aJ ks) ((bF l).map keyOf) (aJ (bF l))).2) else none)=_
  have c1:(aJ ks).length+(aJ (bF l)).length≤lim:=by
   have:=zX l
   unfold aJ
   rw[List.length_map,List.length_map,dh];omega
  have c2:(ks.map keyOf).isEmpty=true→(((bF l).map ic).map fU).Nodup:=fun z=>by
   rw[List.map_map]
   exact hh (by cases ks with | nil=>rfl | cons _ _=>cases z)
  rw[if_pos ⟨c1,c2⟩,oE]
 rw[this]
theorem v7(hg:Brd bd W)(hs:bd.length*W<64)(hw:Ways w){x:Cell}(hx:On bd.length W x){ρ:a5}(h0:dV 0 ρ=M.ret (brd bd))(h1:dV 1 ρ=M.ret (.int (w:Int)))(h4:dV 4 ρ=M.ret (cD x)):
 dA rQ (aC (ak 3 cz (aC (dV 0) (aC (dV 4) (aC (dV 1) aN)))) aN) ρ=M.ret (cL (aY bd W w x)):=by
 obtain⟨k,ks,ps,q1,q2,q3⟩:=pE hg hw hx
 have e1:ak 3 cz (aC (dV 0) (aC (dV 4) (aC (dV 1) aN))) ρ=M.ret (yr ks ps):=(ah (ds:=[brd bd,cD x, .int (w:Int)]) (aK h0 (aK h4 (aK h1 rfl))) rfl).trans q3
 refine(bQ (xs:=[yr ks ps]) (aK e1 rfl)).trans ((De q1.nd (Nat.lt_of_le_of_lt (jd q1.nd q2) hs)).trans ?_)
 have:pC ks=aY bd W w x:=IsPatch.one ⟨xV q1.nd,fun x=>z5.trans (q1.last x)⟩ (br hw hx)
 rw[this]
theorem gU(s:List Cell)(x:Cell):b8 bd W w (s++[x])=if Least bd W w x x then b8 bd W w s++[x] else b8 bd W w s:=by
 unfold b8
 rw[List.filter_append]
 by_cases h:Least bd W w x x
 ·rw[if_pos h,List.filter_cons_of_pos (by rw[decide_eq_true_eq];exact h),List.filter_nil]
 ·rw[if_neg h,List.filter_cons_of_neg (by rw[decide_eq_true_eq];exact h),List.filter_nil,List.append_nil]
theorem DQ(hg:Brd bd W)(hs:bd.length*W<64)(hw:Ways w){L:Cell→Cell}(hL:∀x,On bd.length W x→Least bd W w x (L x)){s r ks:List Cell}{x:Cell}(e:s++x::r=aU bd.length W)(h:Seen bd W w s ks):
 ∃ks',Seen bd W w (s++[x]) ks'∧NK (DB bd W w s ks (fz (cD x)) none)=M.ret (.nx (DB bd W w (s++[x]) ks' none none)):=by
 have hx:On bd.length W x:=aQ.mp (by rw[←e];simp)
 have u5:=iw bd.length W
 rw[←e] at u5
 have LA:∀y∈s,On bd.length W y:=fun y hy=>aQ.mp (by rw[←e];simp[hy])
 have MJ:∀y∈r,On bd.length W y:=fun y hy=>aQ.mp (by rw[←e];simp[hy])
 have D7:∀y∈s,rank W y<rank W x:=fun y hy=>(gr (LA y hy) hx).mp ((List.pairwise_append.mp u5).2.2 y hy x (List.mem_cons_self ..))
 have GY:∀y∈r,rank W x<rank W y:=fun y hy=>(gr hx (MJ y hy)).mp ((List.pairwise_cons.mp (List.pairwise_append.mp u5).2.1).1 y hy)
 have Ls:ks.length≤64:=by have:=jd (bd:=bd) (W:=W) h.nd h.on;omega
 have BE:s.length<64:=by
  have:=congrArg List.length e
  rw[cB,List.length_append,List.length_cons] at this
  omega
 have ht:Gy (bS (d2 (iz true) (dV 4) (dV 3))) (DB bd W w s ks (fz (cD x)) none)=M.ret (!decide (x∈ks)):=
  Gz (ej ((aF (x:=cD x) (y:= .dct (ks.map keyOf) (aJ ks)) rfl rfl).trans (sF (neg:=true) (by simp[aJ]))))
 by_cases hl:Least bd W w x x
 ·have MU:x∉ks:=fun z=>by
   obtain⟨m,hm,hc⟩:=(h.mem x).mp z
   unfold b8 at hm
   rw[List.mem_filter,decide_eq_true_eq] at hm
   have h1:=D7 m hm.1
   have h2:=hl.2 m (hc.symm hw (LA m hm.1))
   omega
  rw[decide_eq_false MU] at ht
  have hP:=br hw hx (bd:=bd) (W:=W)
  have GV:∀y∈aY bd W w x,On bd.length W y:=fun y hy=>((hP.mem y).mp hy).on hw hx
  have Ju:(aY bd W w x).length≤64:=by have:=jd (bd:=bd) (W:=W) hP.rise.nodup GV;omega
  have Lq:(zl bd W w s).length<lim:=by
   unfold zl
   rw[List.length_map,dh]
   have:=List.length_filter_le (fun x=>decide (Least bd W w x x)) s
   unfold b8
   omega
  refine⟨(bF (aY bd W w x)).foldl bP ks,⟨Bn h.nd,fun y hy=>?_,fun y=>?_⟩,?_⟩
  ·rcases((ke (bF (aY bd W w x)) ks).2.1 y).mp hy with q | q
   ·exact h.on y q
   ·exact GV y (jl.mp q)
  ·rw[(ke (bF (aY bd W w x)) ks).2.1 y,jl,h.mem y,gU,if_pos hl,hP.mem y]
   constructor
   ·rintro(⟨m,hm,hc⟩ | hc)
    ·exact⟨m,List.mem_append.mpr (.inl hm),hc⟩
    ·exact⟨x,by simp,hc⟩
   ·rintro⟨m,hm,hc⟩
    rcases List.mem_append.mp hm with hm | hm
    ·exact .inl ⟨m,hm,hc⟩
    ·rw[List.mem_singleton.mp hm] at hc;exact .inr hc
  ·have ef:zl bd W w (s++[x])=zl bd W w s++[cL (aY bd W w x)]:=by
    unfold zl
    rw[gU,if_pos hl,List.map_append]
    rfl
   refine(bp (ρ':=[fz (brd bd),fz (.int (w:Int)),some (.ow (.lst (zl bd W w s++[cL (aY bd W w x)]))),some (.ow (.dct (((bF (aY bd W w x)).foldl bP ks).map keyOf) (aJ ((bF (aY bd W w x)).foldl bP ks)))),fz (cD x),fz (cL (aY bd W w x))]) (eU ht (ao (ρ':=DB bd W w s ks (fz (cD x)) (fz (cL (aY bd W w x)))) ((aI (v7 hg hs hw hx rfl rfl rfl)).trans rfl) (ao (ρ':=[fz (brd bd),fz (.int (w:Int)),some (.ow (.lst (zl bd W w s++[cL (aY bd W w x)]))),some (.ow (.dct (ks.map keyOf) (aJ ks))),fz (cD x),fz (cL (aY bd W w x))]) ?_ ?_)))).trans ?_
   ·show (if (zl bd W w s).length<lim then M.ret (Out.nx [fz (brd bd),fz (.int (w:Int)),some (.ow (.lst (zl bd W w s++[cL (aY bd W w x)]))),some (.ow (.dct (ks.map keyOf) (aJ ks))),fz (cD x),fz (cL (aY bd W w x))]) else M.stuck)=_
    rw[if_pos Lq]
   ·exact(Dw (ks:=ks) (l:=aY bd W w x) rfl ((ah (ds:=[cL (aY bd W w x)]) rfl rfl).trans (qT (by omega))) (by omega) (fun _=>D5 hg.r8 hg.w8 (B4 _) fun y hy=>GV y (jl.mp hy))).trans rfl
   ·unfold DB
    rw[ef]
    rfl
 ·have hm:=hL x hx
  have il:L x≠x:=fun z=>hl (by rw[z] at hm;exact hm)
  have eO:rank W (L x)<rank W x:=by
   have h1:=hm.2 x Cn.refl
   have h2:rank W (L x)≠rank W x:=fun z=>il (vN (hm.on hw hx) hx z)
   omega
  have P9:L x∈s:=by
   have:L x∈s++x::r:=by rw[e];exact aQ.mpr (hm.on hw hx)
   rcases List.mem_append.mp this with q | q
   ·exact q
   ·rcases List.mem_cons.mp q with q | q
    ·exact absurd q il
    ·have:=GY _ q;omega
  have MU:x∈ks:=(h.mem x).mpr ⟨L x,by unfold b8;rw[List.mem_filter,decide_eq_true_eq];exact⟨P9,hm.self hw hx⟩,hm.1.symm hw hx⟩
  rw[decide_eq_true MU] at ht
  refine⟨ks,⟨h.nd,h.on,fun y=>by rw[gU,if_neg hl];exact h.mem y⟩,?_⟩
  have ef:zl bd W w (s++[x])=zl bd W w s:=by
   unfold zl
   rw[gU,if_neg hl]
  refine(bp (cw ht rfl)).trans ?_
  unfold DB
  rw[ef]
  rfl
theorem yl(hg:Brd bd W)(hs:bd.length*W<64)(hw:Ways w){L:Cell→Cell}(hL:∀x,On bd.length W x→Least bd W w x (L x)):∀(r s ks:List Cell),s++r=aU bd.length W→Seen bd W w s ks→
 ∃ks',forL (putN 4) NK (r.map cD) (DB bd W w s ks none none)=M.ret (.nx (DB bd W w (aU bd.length W) ks' none none))
 |[],s,ks,e,h=>by
  rw[List.append_nil] at e
  exact⟨ks,by rw[e];rfl⟩
 |x::r,s,ks,e,h=>by
  obtain⟨M5,h1,e1⟩:=DQ hg hs hw hL e h
  obtain⟨M6,e2⟩:=yl hg hs hw hL r (s++[x]) M5 (by rw[List.append_assoc];exact e) h1
  exact⟨M6,(cM rfl e1).trans e2⟩
theorem dE(hg:Brd bd W)(hs:bd.length*W<64)(hw:Ways w):a6 [brd bd, .int (w:Int)]=M.ret (kG bd W w):=by
 obtain⟨L,hL⟩:=qV (bd:=bd) (W:=W) hw
 obtain⟨ks,e⟩:=yl hg hs hw hL (aU bd.length W) [] [] rfl ⟨List.nodup_nil,(fun y hy=>(by cases hy)),(fun y=>⟨fun z=>(by cases z),fun⟨m,hm,_⟩=>(by cases hm)⟩)⟩
 refine aS (ao (ρ':=[fz (brd bd),fz (.int (w:Int)),some (.ow (.lst [])),none,none,none]) rfl (ao (ρ':=DB bd W w [] [] none none) rfl (ao (ρ':=DB bd W w (aU bd.length W) ks none none) (dF (fM (ds:=(aU bd.length W).map cD) (M3 ((ah (ds:=[brd bd]) rfl rfl).trans (jA hg))) e)) rfl)))
end
structure NumOk (R W:Nat) (Ps:List (List Cell)) (ks:List Cell) (f:Cell→Nat):Prop where
 nd:ks.Nodup
 on:∀y∈ks,On R W y
 num:∀y∈ks,∃P,Ps[f y]? =some P∧y∈P
def OH:DS:=cI [4] (ig 1 (dV 4) (dV 2))
def Gp(Ps:List (List Cell))(ks:List Cell)(f:Cell→Nat)(x2 x3 x4:Option Sl):a5:=[fz (.lst (Ps.map cL)),some (.ow (DZ ks fun y=> .int (f y:Int))),x2,x3,x4]
theorem qu{ks:List Cell}{x:Cell}:x∈bP ks x:=fq.mpr (.inr rfl)
theorem Gq{R W:Nat}(hm:R*W≤64){Ps:List (List Cell)}{i:Nat}{P:List Cell}(hP:Ps[i]? =some P){x3:Option Sl}(p6:∀y∈P,On R W y):∀(l ks:List Cell) (f:Cell→Nat),(∀y∈l,y∈P)→NumOk R W Ps ks f→
 ∃ks' f',NumOk R W Ps ks' f'∧(∀y∈ks,y∈ks')∧(∀y∈l,y∈ks')∧forL (putN 4) OH (l.map cD) (Gp Ps ks f (fz (.int (i:Int))) x3 none)=M.ret (.nx (Gp Ps ks' f' (fz (.int (i:Int))) x3 none))
 |[],ks,f,_,h=>⟨ks,f,h,fun y hy=>hy,(fun y hy=>(by cases hy)),rfl⟩
 |x::l,ks,f,hl,h=>by
  have hx:=hl x (List.mem_cons_self ..)
  have Ls:ks.length≤64:=by
   have h1:=fJ h.nd fun y hy=>aQ.mpr (h.on y hy)
   rw[cB] at h1
   omega
  have h1:NumOk R W Ps (bP ks x) (fun y=>if y=x then i else f y):=by
   refine⟨(ke [x] ks).1 h.nd,fun y hy=>?_,fun y hy=>?_⟩
   ·rcases fq.mp hy with q | q
    ·exact h.on y q
    ·rw[q];exact p6 x hx
   ·by_cases e:y=x
    ·refine⟨P,?_,by rw[e];exact hx⟩
     show Ps[if y=x then i else f y]? =_
     rw[if_pos e];exact hP
    ·rcases fq.mp hy with q | q
     ·obtain⟨Q,q1,q2⟩:=h.num y q
      refine⟨Q,?_,q2⟩
      show Ps[if y=x then i else f y]? =_
      rw[if_neg e];exact q1
     ·exact absurd q e
  obtain⟨ks',f',a1,a2,a3,a4⟩:=Gq hm hP p6 l (bP ks x) _ (fun y hy=>hl y (List.mem_cons_of_mem _ hy)) h1
  refine⟨ks',f',a1,fun y hy=>a2 y (fq.mpr (.inl hy)),fun y hy=>?_,?_⟩
  ·rcases List.mem_cons.mp hy with rfl | hy
   ·exact a2 _ qu
   ·exact a3 y hy
  ·refine(cM (ρ1:=Gp Ps ks f (fz (.int (i:Int))) x3 (fz (cD x))) rfl ?_).trans a4
   refine(bp ((y9 (ks:=ks) (f:=fun y=> .int (f y:Int)) (x:=x) (d:= .int (i:Int)) rfl rfl rfl (by rw[dh];omega)).trans rfl)).trans ?_
   have ef:fg (fun y=>D.int (f y:Int)) x (.int (i:Int))=fun y=>D.int ((if y=x then i else f y:Nat):Int):=by
    funext y
    unfold fg
    by_cases e:y=x
    ·rw[if_pos e,if_pos e]
    ·rw[if_neg e,if_neg e]
   show M.ret (Out.nx [fz (.lst (Ps.map cL)),some (.ow (DZ (bP ks x) (fg (fun y=>D.int (f y:Int)) x (.int (i:Int))))),fz (.int (i:Int)),x3,none])=_
   rw[ef]
   rfl
def Lh(q:Nat×List Cell):D:= .tup [.int (q.1:Int),cL q.2]
theorem B6{R W:Nat}(hm:R*W≤64){Ps:List (List Cell)}(p6:∀P∈Ps,∀y∈P,On R W y):∀(qs:List (Nat×List Cell)) (ks:List Cell) (f:Cell→Nat),(∀q∈qs,Ps[q.1]? =some q.2)→NumOk R W Ps ks f→
 ∃ks' f',NumOk R W Ps ks' f'∧(∀y∈ks,y∈ks')∧(∀q∈qs,∀y∈q.2,y∈ks')∧forL (pb [2,3]) (cI [2,3,4] (eD (putN 4) (dU (dV 3)) OH)) (qs.map Lh) (Gp Ps ks f none none none)=M.ret (.nx (Gp Ps ks' f' none none none))
 |[],ks,f,_,h=>⟨ks,f,h,fun y hy=>hy,(fun q hq=>(by cases hq)),rfl⟩
 |q::qs,ks,f,hq,h=>by
  have hP:=hq q (List.mem_cons_self ..)
  obtain⟨M5,f1,a1,a2,a3,a4⟩:=Gq hm hP (x3:=fz (cL q.2)) (p6 q.2 (List.mem_of_getElem? hP)) q.2 ks f (fun y hy=>hy) h
  obtain⟨M6,f2,b1,b2,b3,b4⟩:=B6 hm p6 qs M5 f1 (fun q' Ha=>hq q' (List.mem_cons_of_mem _ Ha)) a1
  refine⟨M6,f2,b1,fun y hy=>b2 y (a2 y hy),fun q' Ha y hy=>?_,?_⟩
  ·rcases List.mem_cons.mp Ha with rfl | Ha
   ·exact b2 y (a3 y hy)
   ·exact b3 q' Ha y hy
  ·exact(cM (ρ1:=Gp Ps ks f (fz (.int (q.1:Int))) (fz (cL q.2)) none) rfl ((bp (fM (ds:=q.2.map cD) (OA rfl) a4)).trans rfl)).trans b4
theorem z3(Ps:List (List Cell)):(Ps.map cL).mapIdx (fun i d=>D.tup [.int (i:Int),d])=(Ps.zipIdx.map fun q:List Cell×Nat=>(q.2,q.1)).map Lh:=by
 apply List.ext_getElem?
 intro i
 simp only[List.getElem?_mapIdx,List.getElem?_map,List.getElem?_zipIdx,Option.map_map,Nat.zero_add]
 cases Ps[i]? <;>simp[Lh]
theorem oP{R W:Nat}(hm:R*W≤64){Ps:List (List Cell)}(p6:∀P∈Ps,∀y∈P,On R W y):∃ks f,NumOk R W Ps ks f∧(∀P∈Ps,∀y∈P,y∈ks)∧e8 [.lst (Ps.map cL)]=M.ret (zE ks fun y=> .int (f y:Int)):=by
 have hq:∀q∈Ps.zipIdx.map (fun q:List Cell×Nat=>(q.2,q.1)),Ps[q.1]? =some q.2:=fun q hq=>by
  obtain⟨⟨P,i⟩,h1,rfl⟩:=List.mem_map.mp hq
  exact List.mem_zipIdx_iff_getElem?.mp h1
 obtain⟨ks,f,a1,a2,a3,a4⟩:=B6 hm p6 (Ps.zipIdx.map fun q:List Cell×Nat=>(q.2,q.1)) [] (fun _=>0) hq ⟨List.nodup_nil,(fun y hy=>(by cases hy)),(fun y hy=>(by cases hy))⟩
 refine⟨ks,f,a1,fun P hP y hy=>?_,?_⟩
 ·obtain⟨i,hi,rfl⟩:=List.getElem_of_mem hP
  refine a3 (i,Ps[i]) (List.mem_map.mpr ⟨(Ps[i],i),List.mem_zipIdx_iff_getElem?.mpr (by rw[List.getElem?_eq_getElem hi]),rfl⟩) y hy
 ·refine aS (ao (ρ':=Gp Ps [] (fun _=>0) none none none) rfl (ao (ρ':=Gp Ps ks f none none none) (dF (fM (ds:=(Ps.zipIdx.map fun q:List Cell×Nat=>(q.2,q.1)).map Lh) ?_ a4)) rfl))
  show M.ret ((Ps.map cL).mapIdx fun i d=>D.tup [.int (i:Int),d])=_
  rw[z3]
section
open Classical
variable{bd:List Str}{W w:Nat}
noncomputable def aq(bd:List Str)(W w:Nat):List (List Cell):=(b8 bd W w (aU bd.length W)).map (aY bd W w)
theorem gZ:kG bd W w= .lst ((aq bd W w).map cL):=by
 unfold kG aq
 rw[List.map_map]
 rfl
theorem dZ{m:Cell}(h:m∈b8 bd W w (aU bd.length W)):On bd.length W m:=by
 unfold b8 at h
 exact aQ.mp (List.mem_filter.mp h).1
theorem c9(hw:Ways w):∀P∈aq bd W w,∀y∈P,On bd.length W y:=fun P hP y hy=>by
 unfold aq at hP
 obtain⟨m,hm,rfl⟩:=List.mem_map.mp hP
 exact(((br hw (dZ hm)).mem y).mp hy).on hw (dZ hm)
theorem fL(hg:Brd bd W)(hw:Ways w){x:Cell}(hx:On bd.length W x):∃P∈aq bd W w,x∈P:=by
 obtain⟨L,hL⟩:=qV (bd:=bd) (W:=W) hw
 have hm:=hL x hx
 have II:=hm.on hw hx
 refine⟨aY bd W w (L x),List.mem_map.mpr ⟨L x,?_,rfl⟩,((br hw II).mem x).mpr (hm.1.symm hw hx)⟩
 unfold b8
 rw[List.mem_filter,decide_eq_true_eq]
 exact⟨aQ.mpr II,hm.self hw hx⟩
theorem dQ:(aq bd W w).length≤bd.length*W:=by
 unfold aq b8
 rw[List.length_map,←cB bd.length W]
 exact List.length_filter_le ..
theorem vJ(hg:Brd bd W)(hs:bd.length*W<64)(hw:Ways w):er [brd bd, .int (w:Int)]=M.ret (.lst ((aq bd W w).map cL)):=by
 rw[←gZ]
 exact aS (ao (bM ((ah (ds:=[brd bd]) rfl rfl).trans hg.nb)) (ao (bM ((ah (ds:=[.int (w:Int)]) rfl rfl).trans hw.nw)) (aD ((ah (ds:=[brd bd, .int (w:Int)]) rfl rfl).trans (dE hg hs hw)))))
theorem e9(hg:Brd bd W)(hs:bd.length*W<64)(hw:Ways w):bC [brd bd, .int (w:Int)]=M.ret (.int ((aq bd W w).length:Int)):=by
 refine aS (ao (bM ((ah (ds:=[brd bd]) rfl rfl).trans hg.nb)) (ao (bM ((ah (ds:=[.int (w:Int)]) rfl rfl).trans hw.nw)) (aD ((bQ (xs:=[kG bd W w]) (aK ((ah (ds:=[brd bd, .int (w:Int)]) rfl rfl).trans (dE hg hs hw)) rfl)).trans ?_))))
 rw[gZ]
 show M.ret (D.int (((aq bd W w).map cL).length:Int))=_
 rw[List.length_map]
end
end K1
namespace K1
open PySem L2 L3 HT
def k_(l:List Nat):Str:=⟨l.toArray⟩
theorem dR(l:List Nat):(k_ l).cps.toList=l:=by simp[k_]
theorem Es(l:List Nat):(k_ l).length=l.length:=by simp[k_,Str.length]
theorem nJ(x y:Str):(x++y).cps.toList=x.cps.toList++y.cps.toList:=by
 show (x.cps++y.cps).toList=_
 simp
theorem Je(ds:List D)(d:D):cutD (ds++[d]) none (some (-1))=ds:=by
 unfold cutD
 have e:sIx (ds++[d]).length (ds++[d]).length (some (-1))=ds.length:=by
  show (if (-1:Int)<0 then((-1:Int)+((ds++[d]).length:Int)).toNat else min (-1:Int).toNat (ds++[d]).length)=_
  rw[if_pos (by decide),List.length_append]
  simp
  omega
 rw[e,sIx_none]
 simp
theorem Em(ds:List D)(d:D):c7 (.lst (ds++[d])) (.int (-1))=M.ret d:=by
 show (match L2.atI (ds++[d]) (-1) with | some d=>M.ret d | none=>M.stuck)=_
 have e:L2.atI (ds++[d]) (-1)=some d:=by
  unfold L2.atI BR
  rw[if_neg (by decide),if_pos (by simp;omega)]
  show (ds++[d])[((-1:Int)+((ds++[d]).length:Int)).toNat]? =_
  have:((-1:Int)+((ds++[d]).length:Int)).toNat=ds.length:=by simp;omega
  rw[this]
  simp
 rw[e]
end K1
namespace K1
open PySem PySem.Spec L2 L3
open PyProof.Rows hiding St
section
open Classical
variable{bd:List Str}{W w:Nat}
theorem Ey:(b8 bd W w (aU bd.length W)).Nodup:=by
 unfold b8
 exact(RiseC.nodup (iw _ _)).filter _
theorem oA{l:List Cell}{m:Cell}:m∈b8 bd W w l↔m∈l∧Least bd W w m m:=by
 unfold b8
 rw[List.mem_filter,decide_eq_true_eq]
theorem ve(hw:Ways w){m x:Cell}(hm:m∈b8 bd W w (aU bd.length W))(hx:x∈aY bd W w m):Least bd W w x m:=
 (oA.mp hm).2.move hw (dZ hm) (((br hw (dZ hm)).mem x).mp hx)
theorem rq{i:Nat}{P:List Cell}(h:(aq bd W w)[i]? =some P):∃m,(b8 bd W w (aU bd.length W))[i]? =some m∧P=aY bd W w m:=by
 unfold aq at h
 rw[List.getElem?_map] at h
 cases q:(b8 bd W w (aU bd.length W))[i]? with
 |none=>rw[q] at h;cases h
 |some m=>rw[q] at h;cases h;exact⟨m,rfl,rfl⟩
theorem B0{i j:Nat}{m:Cell}(h:(b8 bd W w (aU bd.length W))[i]? =some m)(h2:(b8 bd W w (aU bd.length W))[j]? =some m):i=j:=
 (List.getElem?_inj (List.getElem?_eq_some_iff.mp h).1 Ey).mp (h.trans h2.symm)
theorem oz{α:Type}{l:List α}{i:Nat}{x:α}(h:l[i]? =some x):x∈l:=List.mem_of_getElem? h
theorem sE(hw:Ways w){i j:Nat}{P Q:List Cell}{x:Cell}(hi:(aq bd W w)[i]? =some P)(hj:(aq bd W w)[j]? =some Q)(hx:x∈P)(hy:x∈Q):i=j:=by
 obtain⟨m,e1,rfl⟩:=rq hi
 obtain⟨n,e2,rfl⟩:=rq hj
 have hm:=oz e1
 have hn:=oz e2
 have p6:On bd.length W x:=(((br hw (dZ hm)).mem x).mp hx).on hw (dZ hm)
 have:=(ve hw hm hx).one hw p6 (ve hw hn hy)
 subst this
 exact B0 e1 e2
theorem xF(hw:Ways w){m:Cell}(hm:m∈b8 bd W w (aU bd.length W)):∃r,aY bd W w m=m::r:=by
 have ho:=dZ hm
 have hP:=br hw ho
 cases hp:aY bd W w m with
 |nil=>have:=(hP.mem m).mpr Cn.refl;rw[hp] at this;cases this
 |cons a r=>
  refine⟨r,?_⟩
  rw[hp] at hP
  by_cases e:a=m
  ·rw[e]
  ·have zM:m∈a::r:=(hP.mem m).mpr Cn.refl
   have zM:m∈r:=by
    cases zM with
    |head=>exact absurd rfl e
    |tail _ q=>exact q
   have hc:=(hP.mem a).mp (List.mem_cons_self ..)
   have h1:=(gr (hc.on hw ho) ho).mp ((List.pairwise_cons.mp hP.rise).1 m zM)
   have:=(oA.mp hm).2.2 a hc
   omega
variable{c:Nat}
theorem rh(hw:Ways w)(i j:Nat):f6 w (i,j) (i,j+1)=true:=by
 rcases hw with rfl | rfl
 ·simp[f6,gi]
 ·simp[f6,gi]
theorem vq(hw:Ways w)(i j:Nat):f6 w (i,j) (i+1,j)=true:=by
 rcases hw with rfl | rfl
 ·simp[f6,gi]
 ·simp[f6,gi]
end
theorem q0{val:Nat→Str}{x:Str}:∀{n:Nat},(∀i,i<n→val i=x)→0<n→eR val n=[x]
 |1,h,_=>by
  show oF [] (val 0)=_
  rw[h 0 (by decide)]
  rfl
 |n+2,h,_=>by
  show oF (eR val (n+1)) (val (n+1))=_
  rw[q0 (fun i hi=>h i (Nat.lt_succ_of_lt hi)) (Nat.succ_pos _),h (n+1) (Nat.lt_succ_self _)]
  unfold oF
  rw[if_pos (List.mem_singleton.mpr rfl)]
end K1
namespace K1
open PySem L2 L3 HT
theorem zh:∀l:List Nat,h9 (l.map sg)=some (l.map fun c=>(⟨#[c]⟩:Str))
 |[]=>rfl
 |c::r=>by
  show (h9 (r.map sg)).map _=_
  rw[zh r]
  rfl
theorem yw:∀l:List Nat,dg (l.map fun c=>(⟨#[c]⟩:Str))=k_ l
 |[]=>rfl
 |c::r=>by
  refine zf ?_
  show ((⟨#[c]⟩:Str)++dg (r.map fun c=>(⟨#[c]⟩:Str))).cps.toList=_
  rw[nJ,yw r,dR,dR]
  rfl
theorem Di:∀l:List Nat,((l.map fun c=>(⟨#[c]⟩:Str)).map (·.length)).sum=l.length
 |[]=>rfl
 |c::r=>by
  show 1+((r.map fun c=>(⟨#[c]⟩:Str)).map (·.length)).sum=_
  rw[Di r,List.length_cons]
  omega
theorem Eo{l:List Nat}(h:l.length≤4096):joinM (.str "") [.lst (l.map sg)]=M.ret (.str (k_ l)):=by
 show (match h9 (l.map sg) with | some (xs:List Str)=>if ("":Str).length=0∧(xs.map fun x:Str=>x.length).sum≤lim then M.ret (D.str (dg xs)) else M.stuck | none=>M.stuck)=_
 rw[zh]
 show (if ("":Str).length=0∧((l.map fun c=>(⟨#[c]⟩:Str)).map fun x:Str=>x.length).sum≤lim then M.ret (D.str (dg (l.map fun c=>(⟨#[c]⟩:Str)))) else M.stuck)=_
 rw[if_pos ⟨rfl,by have:=Di l;rw[dh];exact Nat.le_trans (Nat.le_of_eq this) h⟩,yw]
theorem yF(c:Nat):Gh ⟨#[c]⟩=decide (c∈[97,98,99,100,101,102]):=StrLaws.found_one "abcdef" c
theorem Hi(l:List Nat)(c:Nat)(neg:Bool):p5 neg (sg c) (.str (k_ l))=M.ret (.bl (if neg then !decide (c∈l) else decide (c∈l))):=by
 have:=StrLaws.found_one (k_ l) c
 rw[dR] at this
 show M.ret (D.bl (if neg then !(!(Builtin.Str.occurrences (k_ l) ⟨#[c]⟩ 0 (k_ l).length 1).isEmpty) else !(Builtin.Str.occurrences (k_ l) ⟨#[c]⟩ 0 (k_ l).length 1).isEmpty))=_
 rw[this]
abbrev GF:List Nat:=[97,98,99,100,101,102]
theorem Fp{W:Nat}{r:Str}(h:Row W r){c:Nat}(hc:c∈r.cps.toList):c∈[97,98,99,100,101,102]:=by
 have:=h.let' c hc
 rw[yF] at this
 exact of_decide_eq_true this
def c0(bd:List Str):List Nat:=(bd.map (·.cps.toList)).flatten
theorem En{bd:List Str}{W:Nat}(hg:Brd bd W){i:Nat}{ρ:a5}(h0:ρ[i]? =some (fz (brd bd))):dM sG joinM (dC (.str "")) (aC (dV i) aN) ρ=M.ret (.str (k_ (c0 bd))):=by
 have h8:=hg.r8
 have w8:=hg.w8
 show (if sG (.str "") then((aC (dV i) aN) ρ>>=fun ds=>joinM (.str "") ds) else M.stuck)=_
 rw[if_pos (show sG (.str "")=true from rfl),aK (jQ h0) (xs:=[]) rfl,au]
 show (match h9 (bd.map D.str) with | some (xs:List Str)=>if ("":Str).length=0∧(xs.map fun x:Str=>x.length).sum≤lim then M.ret (D.str (dg xs)) else M.stuck | none=>M.stuck)=_
 have e1:∀xs:List Str,h9 (xs.map D.str)=some xs:=by
  intro xs
  induction xs with
  |nil=>rfl
  |cons x r ih=>show (h9 (r.map D.str)).map _=_;rw[ih];rfl
 rw[e1]
 have e2:∀xs:List Str,(dg xs).cps.toList=(xs.map (·.cps.toList)).flatten:=by
  intro xs
  induction xs with
  |nil=>rfl
  |cons x r ih=>show (x++dg r).cps.toList=_;rw[nJ,ih];rfl
 have e3:∀xs:List Str,(∀x∈xs,x.length≤8)→(xs.map fun x:Str=>x.length).sum≤xs.length*8:=by
  intro xs
  induction xs with
  |nil=>exact fun _=>Nat.zero_le _
  |cons x r ih=>
   intro h
   have:=ih fun y hy=>h y (List.mem_cons_of_mem _ hy)
   have:=h x (List.mem_cons_self ..)
   rw[List.map_cons,List.sum_cons,List.length_cons,Nat.add_mul]
   omega
 have e4:=e3 bd fun x hx=>by rw[(hg.rows x hx).len];exact w8
 show (if ("":Str).length=0∧(bd.map fun x:Str=>x.length).sum≤lim then M.ret (D.str (dg bd)) else M.stuck)=_
 rw[if_pos ⟨rfl,by rw[dh];omega⟩]
 congr 2
 refine zf ?_
 rw[e2,dR]
 rfl
theorem ou{bd:List Str}{c:Nat}:c∈c0 bd↔∃r∈bd,c∈r.cps.toList:=by
 unfold c0
 rw[List.mem_flatten]
 constructor
 ·rintro⟨l,hl,h⟩
  obtain⟨r,hr,rfl⟩:=List.mem_map.mp hl
  exact⟨r,hr,h⟩
 ·rintro⟨r,hr,h⟩
  exact⟨_,List.mem_map.mpr ⟨r,hr,rfl⟩,h⟩
theorem uy{bd:List Str}{W:Nat}(hg:Brd bd W){c:Nat}(h:c∈c0 bd):c∈GF:=by
 obtain⟨r,hr,h⟩:=ou.mp h
 exact Fp (hg.rows r hr) h
theorem yM{bd:List Str}{W:Nat}(hg:Brd bd W){c:Cell}(hc:On bd.length W c):lt bd c∈c0 bd:=by
 have h1:c.1<bd.length:=hc.1
 have hr:(bd.getD c.1 ⟨#[]⟩).cps.toList.length=W:=(hg.rows _ (getD_mem h1)).len
 have h2:c.2<(bd.getD c.1 ⟨#[]⟩).cps.toList.length:=by rw[hr];exact hc.2
 refine ou.mpr ⟨_,getD_mem h1,?_⟩
 show ch (bd.getD c.1 ⟨#[]⟩) c.2∈_
 generalize bd.getD c.1 ⟨#[]⟩=r at h2
 unfold ch
 rw[List.getD_eq_getElem?_getD,List.getElem?_eq_getElem h2]
 exact List.getElem_mem h2
theorem DU{bd:List Str}{i j:Nat}(hi:i<bd.length)(hj:j<bd[i].cps.toList.length):at2 bd i j=bd[i].cps.toList[j]:=by
 unfold at2 ch
 rw[List.getD_eq_getElem?_getD (l:=bd),List.getElem?_eq_getElem hi,Option.getD_some,List.getD_eq_getElem?_getD,List.getElem?_eq_getElem hj,Option.getD_some]
theorem Bv{α:Type}{l:List α}{i:Nat}{x:α}(h:l[i]? =some x)(hi:i<l.length):l[i]=x:=by
 rw[List.getElem?_eq_getElem hi] at h
 exact Option.some.inj h
def z7(R W:Nat)(g:Nat→Nat→Nat):List Str:=(List.range R).map fun i=>k_ ((List.range W).map (g i))
theorem ny(R W:Nat)(g:Nat→Nat→Nat):(z7 R W g).length=R:=by simp[z7]
theorem Ez{R W:Nat}{g:Nat→Nat→Nat}:∀r∈z7 R W g,r.length=W:=fun r hr=>by
 obtain⟨i,_,rfl⟩:=List.mem_map.mp hr
 rw[Es,List.length_map,List.length_range]
theorem Hx{R W:Nat}{g:Nat→Nat→Nat}{i j:Nat}(hi:i<R)(hj:j<W):at2 (z7 R W g) i j=g i j:=by
 have h1:i<(z7 R W g).length:=by rw[ny];exact hi
 have e0:(z7 R W g)[i]? =some (k_ ((List.range W).map (g i))):=by
  unfold z7
  rw[List.getElem?_map,List.getElem?_range hi]
  rfl
 have e1:(z7 R W g)[i].cps.toList=(List.range W).map (g i):=by rw[Bv e0 h1,dR]
 have h2:j<(z7 R W g)[i].cps.toList.length:=by rw[e1,List.length_map,List.length_range];exact hj
 rw[DU h1 h2]
 have:(z7 R W g)[i].cps.toList[j]? =some (g i j):=by rw[e1,List.getElem?_map,List.getElem?_range hj];rfl
 exact Bv this h2
theorem B1{R W:Nat}{g:Nat→Nat→Nat}(r1:1≤R)(r5:R≤5)(w1:1≤W)(w5:W≤5)(h:∀i j,i<R→j<W→g i j∈GF):Good (z7 R W g) W:=by
 refine⟨by rw[ny];exact r1,by rw[ny];exact r5,w1,w5,fun r hr=>⟨Ez r hr,fun c hc=>?_⟩⟩
 obtain⟨i,hi,rfl⟩:=List.mem_map.mp hr
 rw[dR] at hc
 obtain⟨j,hj,rfl⟩:=List.mem_map.mp hc
 exact(yF _).trans (decide_eq_true (h i j (List.mem_range.mp hi) (List.mem_range.mp hj)))
theorem yo{bd:List Str}{W i j:Nat}(hg:Brd bd W)(hi:i<bd.length)(hj:j<W):at2 bd i j∈GF:=uy hg (yM (c:=(i,j)) hg ⟨hi,hj⟩)
def qg(bd:List Str)(W:Nat)(some:List Cell)(c:Nat):List Str:=z7 bd.length W fun i j=>if (i,j)∈some then c else at2 bd i j
theorem nj{bd:List Str}{W:Nat}(hg:Brd bd W){so:D}{l ks:List Cell}{ds:List D}(hk:fS [so]=M.ret (.dct (ks.map keyOf) ds))(hl:ks.length=ds.length)(hm:∀x,x∈ks↔x∈l)(c:Nat):cg [brd bd,so,sg c]=M.ret (brd (qg bd W l c)):=by
 have h8:=hg.r8
 have w8:=hg.w8
 have row:∀{i:Nat},i<bd.length→∀{x4 x5:Option Sl},dM sG joinM (dC (.str "")) (aC (bw 0 (dU (dV 6)) b_ (FR (bS (d2 (iz false) (dV 0) (dV 4))) (dV 3) (ak 2 aO (aC (dV 1) (aC (dV 0) aN))))) aN) [fz (brd bd),fz so,fz (sg c),fz (.dct (ks.map keyOf) ds),x4,x5,fz (.lst ((cY W i).map cD))]=M.ret (.str (k_ ((List.range W).map fun j=>if (i,j)∈l then c else at2 bd i j))):=by
  intro i hi x4 x5
  have cm:bw 0 (dU (dV 6)) b_ (FR (bS (d2 (iz false) (dV 0) (dV 4))) (dV 3) (ak 2 aO (aC (dV 1) (aC (dV 0) aN)))) [fz (brd bd),fz so,fz (sg c),fz (.dct (ks.map keyOf) ds),x4,x5,fz (.lst ((cY W i).map cD))]=M.ret (.lst (((List.range W).map fun j=>if (i,j)∈l then c else at2 bd i j).map sg)):=by
   refine bL (ds:=(cY W i).map cD) rfl ?_ (by simp[dh];omega)
   unfold cY
   rw[List.map_map,List.map_map]
   refine eo (cD∘fun k=>(i,k)) _ _ fun j hj=>?_
   have hj:=List.mem_range.mp hj
   have hc:On bd.length W (i,j):=⟨hi,hj⟩
   rw[ix]
   have e1:bS (d2 (iz false) (dV 0) (dV 4)) (fz (cD (i,j))::[fz (brd bd),fz so,fz (sg c),fz (.dct (ks.map keyOf) ds),x4,x5,fz (.lst ((cY W i).map cD))])=M.ret (decide ((i,j)∈ks)):=ej ((aF (x:=cD (i,j)) (y:= .dct (ks.map keyOf) ds) rfl rfl).trans (sF hl))
   have e2:FR (bS (d2 (iz false) (dV 0) (dV 4))) (dV 3) (ak 2 aO (aC (dV 1) (aC (dV 0) aN))) (fz (cD (i,j))::[fz (brd bd),fz so,fz (sg c),fz (.dct (ks.map keyOf) ds),x4,x5,fz (.lst ((cY W i).map cD))])=M.ret (sg (if (i,j)∈l then c else at2 bd i j)):=by
    rw[Jg e1]
    by_cases h:(i,j)∈l
    ·rw[if_pos h,if_pos (decide_eq_true ((hm _).mpr h))]
     rfl
    ·rw[if_neg h,if_neg (fun z=>h ((hm _).mp (of_decide_eq_true z)))]
     exact(ah (ds:=[brd bd,cD (i,j)]) rfl rfl).trans (dm hg hc)
   exact(congrArg (· >>=fun y=>M.ret (some y)) e2).trans rfl
  show (if sG (.str "") then((aC _ aN) [fz (brd bd),fz so,fz (sg c),fz (.dct (ks.map keyOf) ds),x4,x5,fz (.lst ((cY W i).map cD))]>>=fun ds=>joinM (.str "") ds) else M.stuck)=_
  rw[if_pos (show sG (.str "")=true from rfl),aK cm (xs:=[]) rfl,au]
  exact Eo (by simp;omega)
 have lp:=iy (put:=putN 5) (body:=cI [5,6] (aA (bD 6 (ak 2 bh (aC (dV 0) (aC (dV 5) aN)))) (jx 4 (dM sG joinM (dC (.str "")) (aC (bw 0 (dU (dV 6)) b_ (FR (bS (d2 (iz false) (dV 0) (dV 4))) (dV 3) (ak 2 aO (aC (dV 1) (aC (dV 0) aN))))) aN))))) (fun (k:Nat)=>D.int (k:Int)) (fun acc=>[fz (brd bd),fz so,fz (sg c),fz (.dct (ks.map keyOf) ds),some (.ow (.lst acc)),none,none]) (fun i=>[.str (k_ ((List.range W).map fun j=>if (i,j)∈l then c else at2 bd i j))]) (B:=100) (List.range bd.length) [] (by
  have:∀l':List Nat,(l'.flatMap fun i=>[D.str (k_ ((List.range W).map fun j=>if (i,j)∈l then c else at2 bd i j))]).length=l'.length:=by
   intro l'
   induction l' with
   |nil=>rfl
   |cons a l' ih=>rw[List.flatMap_cons,List.length_append,ih,List.length_cons];simp;omega
  rw[List.nil_append,this,List.length_range]
  omega) fun i hi acc ha=>by
  have hi:=List.mem_range.mp hi
  refine⟨[fz (brd bd),fz so,fz (sg c),fz (.dct (ks.map keyOf) ds),some (.ow (.lst acc)),fz (.int (i:Int)),none],rfl,?_⟩
  refine(bp (ρ':=[fz (brd bd),fz so,fz (sg c),fz (.dct (ks.map keyOf) ds),some (.ow (.lst (acc++[.str (k_ ((List.range W).map fun j=>if (i,j)∈l then c else at2 bd i j))]))),fz (.int (i:Int)),fz (.lst ((cY W i).map cD))]) (ao (ρ':=[fz (brd bd),fz so,fz (sg c),fz (.dct (ks.map keyOf) ds),some (.ow (.lst acc)),fz (.int (i:Int)),fz (.lst ((cY W i).map cD))]) ((aI ((ah (ds:=[brd bd, .int (i:Int)]) rfl rfl).trans (gq hg i))).trans rfl) ?_)).trans rfl
  show (dM sG joinM _ _ _>>=fun d=>if acc.length<lim then M.ret (Out.nx _) else M.stuck)=_
  rw[row hi,au,if_pos (by rw[dh];rw[List.length_append] at ha;simp at ha;omega)]
  rfl
 refine aS (ao (ρ':=[fz (brd bd),fz so,fz (sg c),fz (.dct (ks.map keyOf) ds),none,none,none]) ((aI ((ah (ds:=[so]) rfl rfl).trans hk)).trans rfl) (ao (ρ':=[fz (brd bd),fz so,fz (sg c),fz (.dct (ks.map keyOf) ds),some (.ow (.lst [])),none,none]) rfl (ao (dF (fM (Fm (n:=bd.length) (Hw (i:=0) rfl) (by omega)) lp)) (aD ?_))))
 refine(bQ (xs:=[.lst ((List.range bd.length).flatMap fun i=>[.str (k_ ((List.range W).map fun j=>if (i,j)∈l then c else at2 bd i j))])]) rfl).trans ?_
 show M.ret (D.tup _)=M.ret (D.tup ((qg bd W l c).map D.str))
 unfold qg z7
 rw[List.map_map]
 have:∀l':List Nat,(l'.flatMap fun i=>[D.str (k_ ((List.range W).map fun j=>if (i,j)∈l then c else at2 bd i j))])=l'.map (D.str∘fun i=>k_ ((List.range W).map fun j=>if (i,j)∈l then c else at2 bd i j)):=by
  intro l'
  induction l' with
  |nil=>rfl
  |cons a l' ih=>rw[List.flatMap_cons,ih];rfl
 rw[this]
theorem l5{bd:List Str}{W:Nat}(hg:Brd bd W){l:List Cell}(hl:l.length<4000)(c:Nat):cg [brd bd,cL l,sg c]=M.ret (brd (qg bd W l c)):=
 nj hg (qT hl) (by simp[aJ]) (fun x=>jl) c
theorem Fh{bd:List Str}{W:Nat}{l:List Cell}{c i j:Nat}(hi:i<bd.length)(hj:j<W):at2 (qg bd W l c) i j=if (i,j)∈l then c else at2 bd i j:=Hx hi hj
theorem CU(bd:List Str)(W:Nat)(l:List Cell)(c:Nat):(qg bd W l c).length=bd.length:=ny ..
theorem As{bd:List Str}{W:Nat}(hG:Good bd W){l:List Cell}{c:Nat}(hc:c∈GF):Good (qg bd W l c) W:=B1 hG.r1 hG.r5 hG.w1 hG.w5 fun i j hi hj=>by
 split
 ·exact hc
 ·exact yo hG.brd hi hj
end K1
namespace K1
open PySem L2 L3
section
open Classical
variable{bd:List Str}{W w:Nat}
theorem jj{P:List Cell}{c:Nat}{x:Cell}(hx:On bd.length W x):lt (qg bd W P c) x=if x∈P then c else lt bd x:=by
 show at2 (qg bd W P c) x.1 x.2=_
 rw[Fh hx.1 hx.2]
theorem eB(hw:Ways w){P:List Cell}(hP:P∈aq bd W w){x:Cell}(hx:x∈P):aY bd W w x=P:=by
 obtain⟨m,hm,rfl⟩:=List.mem_map.mp (show P∈(b8 bd W w (aU bd.length W)).map (aY bd W w) from hP)
 have II:=dZ hm
 have h1:=br hw II
 have hc:=(h1.mem x).mp hx
 have h2:=br hw (hc.on hw II)
 exact rL h2.rise h1.rise fun y=>by
  rw[h2.mem,h1.mem]
  exact⟨fun q=>hc.trans q,fun q=>(hc.symm hw II).trans q⟩
theorem eS(hw:Ways w){P:List Cell}(hP:P∈aq bd W w){x y:Cell}(hx:x∈P):y∈P↔Cn bd W w x y:=by
 rw[←eB hw hP hx]
 exact(br hw (c9 hw P hP x hx)).mem y
theorem gB(hw:Ways w){P Q:List Cell}(hP:P∈aq bd W w)(hQ:Q∈aq bd W w){x:Cell}(h1:x∈P)(h2:x∈Q):P=Q:=(eB hw hP h1).symm.trans (eB hw hQ h2)
theorem du(hw:Ways w){P:List Cell}(hP:P∈aq bd W w):∃m,m∈P∧Least bd W w m m∧On bd.length W m∧∃r,P=m::r:=by
 obtain⟨m,hm,rfl⟩:=List.mem_map.mp (show P∈(b8 bd W w (aU bd.length W)).map (aY bd W w) from hP)
 obtain⟨r,hr⟩:=xF hw hm
 exact⟨m,by rw[hr];exact List.mem_cons_self ..,(oA.mp hm).2,dZ hm,r,hr⟩
structure Adj (bd:List Str) (W w:Nat) (P Q:List Cell) (x y:Cell):Prop where
 p:P∈aq bd W w
 q:Q∈aq bd W w
 ne:P≠Q
 xp:x∈P
 yq:y∈Q
 nx:f6 4 x y=true
theorem Ki(hw:Ways w){x y:Cell}(h:f6 4 x y=true):f6 w x y=true:=by
 rcases hw with rfl | rfl
 ·exact h
 ·exact Kh h
variable{P Q:List Cell}{x y:Cell}
theorem Adj.ox(h:Adj bd W w P Q x y)(hw:Ways w):On bd.length W x:=c9 hw P h.p x h.xp
theorem Adj.oy(h:Adj bd W w P Q x y)(hw:Ways w):On bd.length W y:=c9 hw Q h.q y h.yq
theorem Adj.yn(h:Adj bd W w P Q x y)(hw:Ways w):y∉P:=fun q=>h.ne (gB hw h.p h.q q h.yq)
abbrev AR(bd:List Str)(W:Nat)(P:List Cell)(y:Cell):List Str:=qg bd W P (lt bd y)
theorem jk:(AR bd W P y).length=bd.length:=CU ..
theorem xk(hw:Ways w)(hP:P∈aq bd W w){a:Cell}(ha:On bd.length W a):∀{j:Nat}{b:Cell},Rb (a_ bd W w) a j b→Rb (a_ (AR bd W P y) W w) a j b
 |0,b,h=>h
 |j+1,b,h=>h.elim (fun q=> .inl (xk hw hP ha q)) fun⟨z,q1,q2⟩=>by
  have hz:=zb hw ha q1
  have hb:=(dS hw).mp q2
  refine .inr ⟨z,xk hw hP ha q1,(dS hw).mpr ⟨by rw[jk];exact hb.1,hb.2.1,?_⟩⟩
  rw[jj hb.1,jj hz]
  have:b∈P↔z∈P:=⟨fun q=>(eS hw hP q).mpr ((Cn.step Cn.refl q2).symm hw hz),fun q=>(eS hw hP q).mpr (Cn.step Cn.refl q2)⟩
  by_cases e:z∈P
  ·rw[if_pos e,if_pos (this.mpr e)]
  ·rw[if_neg e,if_neg (fun q=>e (this.mp q)),hb.2.2]
theorem sL(hw:Ways w)(hP:P∈aq bd W w){a b:Cell}(ha:On bd.length W a)(h:Cn bd W w a b):Cn (AR bd W P y) W w a b:=let ⟨j,q⟩:=h;⟨j,xk hw hP ha q⟩
theorem Adj.join(h:Adj bd W w P Q x y)(hw:Ways w):Cn (AR bd W P y) W w x y:=by
 refine Cn.step Cn.refl ((dS hw).mpr ⟨by rw[jk];exact h.oy hw,Ki hw h.nx,?_⟩)
 rw[jj (h.oy hw),jj (h.ox hw),if_pos h.xp,if_neg (h.yn hw)]
theorem uI{α:Type}{p q:α→Bool}:∀{l:List α},(∀x∈l,p x=true→q x=true)→(∃a∈l,q a=true∧p a=false)→(l.filter p).length<(l.filter q).length
 |[],_,h=>by obtain⟨a,ha,_⟩:=h;cases ha
 |b::l,h,⟨a,ha,a1,a2⟩=>by
  have le:(l.filter p).length≤(l.filter q).length:=by
   rw[←List.countP_eq_length_filter,←List.countP_eq_length_filter]
   exact List.countP_mono_left fun x hx=>h x (List.mem_cons_of_mem _ hx)
  rw[List.filter_cons,List.filter_cons]
  rcases List.mem_cons.mp ha with e | ha
  ·subst e
   rw[a1,a2]
   simp
   omega
  ·have ih:=uI (fun x hx=>h x (List.mem_cons_of_mem _ hx)) ⟨a,ha,a1,a2⟩
   have hb:=h b (List.mem_cons_self ..)
   cases hp:p b<;>cases hq:q b
   ·simpa[hp,hq] using ih
   ·simp;omega
   ·rw[hp,hq] at hb;exact absurd (hb rfl) (by simp)
   ·simp;omega
theorem qY:(aq bd W w).length=((aU bd.length W).filter fun x=>decide (Least bd W w x x)).length:=by
 unfold aq b8
 rw[List.length_map]
theorem Adj.fewer(h:Adj bd W w P Q x y)(hw:Ways w):(aq (AR bd W P y) W w).length<(aq bd W w).length:=by
 rw[qY,qY,jk]
 refine uI (fun z hz q=>?_) ?_
 ·have hz:=aQ.mp hz
  exact decide_eq_true ⟨Cn.refl,fun u hu=>(of_decide_eq_true q).2 u (sL hw h.p hz hu)⟩
 ·obtain⟨m,m1,m2,m3,_⟩:=du hw h.p
  obtain⟨n,n1,n2,n3,_⟩:=du hw h.q
  have P7:m≠n:=fun e=>h.ne (gB hw h.p h.q m1 (e▸n1))
  have c:Cn (AR bd W P y) W w m n:=((sL hw h.p m3 ((eS hw h.p m1).mp h.xp)).trans (h.join hw)).trans (sL hw h.p (h.oy hw) ((eS hw h.q h.yq).mp n1))
  have QK:On (AR bd W P y).length W m:=by rw[jk];exact m3
  by_cases q:Least (AR bd W P y) W w m m
  ·refine⟨n,aQ.mpr n3,decide_eq_true n2,decide_eq_false fun q2=>P7 ?_⟩
   exact(q.move hw QK c).one hw (by rw[jk];exact n3) q2
  ·exact⟨m,aQ.mpr m3,decide_eq_true m2,decide_eq_false q⟩
theorem BX{z:Cell}(hz:On bd.length W z)(h:z∉P):lt (AR bd W P y) z=lt bd z:=by rw[jj hz,if_neg h]
theorem Bw{R:Nat}{p:Cell→Prop}(h:∀u v,On R W u→On R W v→f6 4 u v=true→p u→p v){a b:Cell}(ha:On R W a)(hb:On R W b)(hp:p a):p b:=by
 have dn:∀i j,i+1<R→j<W→(p (i+1,j)↔p (i,j)):=fun i j hi hj=>
  ⟨h _ _ ⟨hi,hj⟩ ⟨Nat.lt_of_succ_lt hi,hj⟩ (by rw[iL];exact vq (.inl rfl) i j),h _ _ ⟨Nat.lt_of_succ_lt hi,hj⟩ ⟨hi,hj⟩ (vq (.inl rfl) i j)⟩
 have rt:∀i j,i<R→j+1<W→(p (i,j+1)↔p (i,j)):=fun i j hi hj=>
  ⟨h _ _ ⟨hi,hj⟩ ⟨hi,Nat.lt_of_succ_lt hj⟩ (by rw[iL];exact rh (.inl rfl) i j),h _ _ ⟨hi,Nat.lt_of_succ_lt hj⟩ ⟨hi,hj⟩ (rh (.inl rfl) i j)⟩
 have col:∀i j,i<R→j<W→(p (i,j)↔p (0,j)):=by
  intro i j hi hj
  induction i with
  |zero=>exact Iff.rfl
  |succ i ih=>exact(dn i j hi hj).trans (ih (Nat.lt_of_succ_lt hi))
 have row:∀i j,i<R→j<W→(p (i,j)↔p (i,0)):=by
  intro i j hi hj
  induction j with
  |zero=>exact Iff.rfl
  |succ j ih=>exact(rt i j hi hj).trans (ih (Nat.lt_of_succ_lt hj))
 have all:∀c:Cell,On R W c→(p c↔p (0,0)):=fun c hc=>(col c.1 c.2 hc.1 hc.2).trans (row 0 c.2 (Nat.lt_of_le_of_lt (Nat.zero_le _) hc.1) hc.2)
 exact(all b hb).mpr ((all a ha).mp hp)
theorem C_(hg:Brd bd W)(hw:Ways w){P:List Cell}(hP:P∈aq bd W w)(h1:(aq bd W w).length≠1):∃Q x y,Adj bd W w P Q x y:=by
 obtain⟨m,m1,_,m3,_⟩:=du hw hP
 obtain⟨P2,N2,il⟩:∃P2∈aq bd W w,P2≠P:=by
  cases hl:aq bd W w with
  |nil=>rw[hl] at hP;cases hP
  |cons a r=>
   cases r with
   |nil=>rw[hl] at h1;exact absurd rfl h1
   |cons b r=>
    have Ea:(aq bd W w).Nodup:=by
     rw[List.nodup_iff_pairwise_ne] at*
     refine List.pairwise_iff_getElem.mpr fun i j hi hj u3 e=>?_
     have e1:(aq bd W w)[i]? =some (aq bd W w)[i]:=List.getElem?_eq_getElem hi
     have e2:(aq bd W w)[j]? =some (aq bd W w)[i]:=by rw[List.getElem?_eq_getElem hj,e]
     obtain⟨u,u1,_⟩:=du hw (List.getElem_mem hi)
     have:=sE hw e1 e2 u1 u1
     omega
    rw[hl] at Ea
    have GX:a≠b:=by
     have:=(List.nodup_cons.mp Ea).1
     intro e
     rw[e] at this
     exact this (List.mem_cons_self ..)
    by_cases e:a=P
    ·exact⟨b,by simp,fun q=>GX (e.trans q.symm)⟩
    ·exact⟨a,by simp,e⟩
 obtain⟨n,n1,_,n3,_⟩:=du hw N2
 have hn:n∉P:=fun q=>il (gB hw N2 hP n1 q)
 apply Classical.byContradiction
 intro w6
 refine hn (Bw (p:=fun z=>z∈P) (fun u v hu hv Qd Qu=>?_) m3 n3 m1)
 apply Classical.byContradiction
 intro Qv
 obtain⟨Q,hQ,Ot⟩:=fL hg hw hv
 exact w6 ⟨Q,u,v,hP,hQ,fun e=>Qv (e▸Ot),Qu,Ot,Qd⟩
end
section
open Classical
variable{bd:List Str}{W w:Nat}
def Nj:DS:=(cI [5,6] (gc (bS (d2 Js (d2 jT (dV 2) (dV 4)) (d2 jT (dV 2) (dV 5)))) (aA (bD 6 (dA dq (aC (d2 jT (dV 2) (dV 4)) (aC (d2 jT (dV 2) (dV 5)) aN)))) (ig 3 (dV 6) (Ji (d2 c6 (uL (dV 3) (dV 6) (dC (.int 0))) (dC (.int 1)))))) cF))
abbrev ze(bd:List Str)(S:D)(nk:List Cell)(f:Cell→Nat)(ks:List Cell)(g:Cell→Int)(x4 x5 x6:Option Sl):a5:=[fz (brd bd),fz S,fz (zE nk fun y=> .int (f y:Int)),some (.ow (DZ ks fun k=> .int (g k))),x4,x5,x6]
structure SOk (bd:List Str) (W n:Nat) (f:Cell→Nat) (ks:List Cell):Prop where
 nd:ks.Nodup
 is:∀k∈ks,∃x y,On bd.length W x∧On bd.length W y∧f6 4 x y=true∧f x<f y∧k=(f x,f y)
theorem FC{S:D}{nk:List Cell}{f:Cell→Nat}(hn:∀z,On bd.length W z→z∈nk∧f z<64){x y:Cell}(hx:On bd.length W x)(hy:On bd.length W y)(DK:f6 4 x y=true){ks:List Cell}{g:Cell→Int}(h:SOk bd W 64 f ks):
 ∃ks' g',SOk bd W 64 f ks'∧(∀k∈ks,k∈ks')∧(f x<f y→(f x,f y)∈ks')∧Nj (ze bd S nk f ks g (fz (cD x)) (fz (cD y)) none)=M.ret (.nx (ze bd S nk f ks' g' (fz (cD x)) none none)):=by
 have i4:∀{o x6:Option Sl},d2 jT (dV 2) (dV 4) [fz (brd bd),fz S,fz (zE nk fun y=> .int (f y:Int)),o,fz (cD x),fz (cD y),x6]=M.ret (.int (f x:Int)):=(aF (x:=zE nk fun y=> .int (f y:Int)) (y:=cD x) rfl rfl).trans (BP (hn x hx).1)
 have i5:∀{o x6:Option Sl},d2 jT (dV 2) (dV 5) [fz (brd bd),fz S,fz (zE nk fun y=> .int (f y:Int)),o,fz (cD x),fz (cD y),x6]=M.ret (.int (f y:Int)):=(aF (x:=zE nk fun y=> .int (f y:Int)) (y:=cD y) rfl rfl).trans (BP (hn y hy).1)
 have zg:bS (d2 Js (d2 jT (dV 2) (dV 4)) (d2 jT (dV 2) (dV 5))) (ze bd S nk f ks g (fz (cD x)) (fz (cD y)) none)=M.ret (decide (f x<f y)):=by
  refine ej ((aF i4 i5).trans ?_)
  show M.ret (D.bl (decide ((f x:Int)<(f y:Int))))=_
  congr 2
  exact decide_eq_decide.mpr (by omega)
 have Ls:ks.length<lim:=by
  have:ks.length≤(aU 63 64).length:=fJ h.nd fun k hk=>by
   obtain⟨a,b,ha,hb,_,GX,rfl⟩:=h.is k hk
   have:=(hn b hb).2
   exact aQ.mpr ⟨by show f a<63;omega,this⟩
  rw[cB] at this
  rw[dh];omega
 by_cases eO:f x<f y
 ·rw[decide_eq_true eO] at zg
  refine⟨bP ks (f x,f y),fun k=>if k=(f x,f y) then(if (f x,f y)∈ks then g (f x,f y) else 0)+1 else g k,⟨(ke [(f x,f y)] ks).1 h.nd,fun k hk=>?_⟩,fun k hk=>fq.mpr (.inl hk),fun _=>qu,?_⟩
  ·rcases fq.mp hk with q | q
   ·exact h.is k q
   ·exact⟨x,y,hx,hy,DK,eO,q⟩
  ·have hv:Ji (d2 c6 (uL (dV 3) (dV 6) (dC (.int 0))) (dC (.int 1))) (ze bd S nk f ks g (fz (cD x)) (fz (cD y)) (fz (cD (f x,f y))))=M.ret (.int ((if (f x,f y)∈ks then g (f x,f y) else 0)+1)):=by
    refine Jj ?_ rfl
    have e:uL (dV 3) (dV 6) (dC (.int 0)) (wZ (ze bd S nk f ks g (fz (cD x)) (fz (cD y)) (fz (cD (f x,f y)))))=M.ret (.int (if (f x,f y)∈ks then g (f x,f y) else 0)):=by
     show getM (zE ks fun k=> .int (g k)) (cD (f x,f y)) (.int 0)=_
     by_cases q:(f x,f y)∈ks
     ·rw[D3 q,if_pos q]
     ·rw[Bu q,if_neg q]
    exact(aF e (y:= .int 1) rfl).trans rfl
   refine(bp (ρ':=ze bd S nk f (bP ks (f x,f y)) (fun k=>if k=(f x,f y) then(if (f x,f y)∈ks then g (f x,f y) else 0)+1 else g k) (fz (cD x)) (fz (cD y)) (fz (cD (f x,f y)))) (eU zg (ao (ρ':=ze bd S nk f ks g (fz (cD x)) (fz (cD y)) (fz (cD (f x,f y)))) ((aI ((bQ (aK i4 (aK i5 rfl))).trans rfl)).trans rfl) ?_))).trans rfl
   refine(y9 (ks:=ks) (f:=fun k=> .int (g k)) (x:=(f x,f y)) rfl hv rfl Ls).trans ?_
   have ef:fg (fun k=>D.int (g k)) (f x,f y) (.int ((if (f x,f y)∈ks then g (f x,f y) else 0)+1))=fun k=>D.int (if k=(f x,f y) then(if (f x,f y)∈ks then g (f x,f y) else 0)+1 else g k):=by
    funext k
    unfold fg
    by_cases e:k=(f x,f y)
    ·rw[if_pos e,if_pos e]
    ·rw[if_neg e,if_neg e]
   rw[ef]
   rfl
 ·rw[decide_eq_false eO] at zg
  exact⟨ks,g,h,fun k hk=>hk,fun q=>absurd q eO,(bp (cw zg rfl)).trans rfl⟩
theorem Gw{S:D}{nk:List Cell}{f:Cell→Nat}(hn:∀z,On bd.length W z→z∈nk∧f z<64){x:Cell}(hx:On bd.length W x):∀(l:List Cell) (ks:List Cell) (g:Cell→Int),(∀y∈l,On bd.length W y∧f6 4 x y=true)→SOk bd W 64 f ks→
 ∃ks' g',SOk bd W 64 f ks'∧(∀k∈ks,k∈ks')∧(∀y∈l,f x<f y→(f x,f y)∈ks')∧forL (putN 5) Nj (l.map cD) (ze bd S nk f ks g (fz (cD x)) none none)=M.ret (.nx (ze bd S nk f ks' g' (fz (cD x)) none none))
 |[],ks,g,_,h=>⟨ks,g,h,fun k hk=>hk,(fun y hy=>(by cases hy)),rfl⟩
 |y::l,ks,g,hl,h=>by
  obtain⟨y1,y2⟩:=hl y (List.mem_cons_self ..)
  obtain⟨k1,g1,a1,a2,a3,a4⟩:=FC (S:=S) (g:=g) hn hx y1 y2 h
  obtain⟨k2,g2,b1,b2,b3,b4⟩:=Gw (S:=S) hn hx l k1 g1 (fun z hz=>hl z (List.mem_cons_of_mem _ hz)) a1
  refine⟨k2,g2,b1,fun k hk=>b2 k (a2 k hk),fun z hz q=>?_,(cM rfl a4).trans b4⟩
  rcases List.mem_cons.mp hz with e | hz
  ·subst e;exact b2 _ (a3 q)
  ·exact b3 z hz q
theorem Df(hg:Brd bd W){S:D}{nk:List Cell}{f:Cell→Nat}(hn:∀z,On bd.length W z→z∈nk∧f z<64):∀(l:List Cell) (ks:List Cell) (g:Cell→Int),(∀x∈l,On bd.length W x)→SOk bd W 64 f ks→
 ∃ks' g',SOk bd W 64 f ks'∧(∀k∈ks,k∈ks')∧(∀x∈l,∀y,On bd.length W y→f6 4 x y=true→f x<f y→(f x,f y)∈ks')∧
  forL (putN 4) (cI [4,5,6] (eD (putN 5) (dU (ak 3 bj (aC (dV 0) (aC (dV 4) (aC (dC (.int 4)) aN))))) Nj)) (l.map cD) (ze bd S nk f ks g none none none)=M.ret (.nx (ze bd S nk f ks' g' none none none))
 |[],ks,g,_,h=>⟨ks,g,h,fun k hk=>hk,(fun y hy=>(by cases hy)),rfl⟩
 |x::l,ks,g,hl,h=>by
  have hx:=hl x (List.mem_cons_self ..)
  have MR:Ways 4:= .inl rfl
  obtain⟨k1,g1,a1,a2,a3,a4⟩:=Gw (S:=S) hn hx (gA bd.length W 4 x) ks g (fun y hy=>(jm MR).mp hy) h
  obtain⟨k2,g2,b1,b2,b3,b4⟩:=Df hg (S:=S) hn l k1 g1 (fun z hz=>hl z (List.mem_cons_of_mem _ hz)) a1
  refine⟨k2,g2,b1,fun k hk=>b2 k (a2 k hk),fun z hz y hy q1 q2=>?_,(cM (ρ1:=ze bd S nk f ks g (fz (cD x)) none none) (ρ2:=ze bd S nk f k1 g1 none none none) rfl ((bp (fM (ds:=(gA bd.length W 4 x).map cD) ?_ a4)).trans rfl)).trans b4⟩
  ·rcases List.mem_cons.mp hz with e | hz
   ·subst e;exact b2 _ (a3 y ((jm MR).mpr ⟨hy,q1⟩) q2)
   ·exact b3 z hz y hy q1 q2
  ·show (ak 3 bj (aC (dV 0) (aC (dV 4) (aC (dC (.int 4)) aN))) _>>=lstM)=_
   rw[(ah (ds:=[brd bd,cD x, .int ((4:Nat):Int)]) rfl rfl:ak 3 bj (aC (dV 0) (aC (dV 4) (aC (dC (.int 4)) aN))) _=_),iJ hg MR hx]
   rfl
theorem xT(hg:Brd bd W)(hs:bd.length*W<64)(hw:Ways w):∃(f:Cell→Nat) (ks:List Cell) (g:Cell→Int),(∀x,On bd.length W x→∃P,(aq bd W w)[f x]? =some P∧x∈P)∧SOk bd W 64 f ks∧(∀x y,On bd.length W x→On bd.length W y→f6 4 x y=true→f x<f y→(f x,f y)∈ks)∧
 cf [brd bd, .lst ((aq bd W w).map cL)]=M.ret (zE ks fun k=> .int (g k)):=by
 obtain⟨nk,f,h1,h2,h3⟩:=oP (R:=bd.length) (W:=W) (Nat.le_of_lt hs) (c9 (bd:=bd) (W:=W) (w:=w) hw)
 have hf:∀x,On bd.length W x→x∈nk∧∃P,(aq bd W w)[f x]? =some P∧x∈P:=fun x hx=>by
  obtain⟨P,p1,p2⟩:=fL hg hw hx
  have:=h2 P p1 x p2
  exact⟨this,h1.num x this⟩
 have hl:=dQ (bd:=bd) (W:=W) (w:=w)
 obtain⟨ks,g,a1,a2,a3,a4⟩:=Df hg (S:= .lst ((aq bd W w).map cL)) (nk:=nk) (f:=f) (fun z hz=>⟨(hf z hz).1,by
  obtain⟨P,e,_⟩:=(hf z hz).2
  have:=(List.getElem?_eq_some_iff.mp e).1
  omega⟩) (aU bd.length W) [] (fun _=>0) (fun x hx=>aQ.mp hx) ⟨List.nodup_nil,(fun k hk=>(by cases hk))⟩
 refine⟨f,ks,g,fun x hx=>(hf x hx).2,a1,fun x y hx hy=>a3 x (aQ.mpr hx) y hy,?_⟩
 refine aS (ao (ρ':=[fz (brd bd),fz (.lst ((aq bd W w).map cL)),fz (zE nk fun y=> .int (f y:Int)),none,none,none,none]) ((aI ((ah (ds:=[.lst ((aq bd W w).map cL)]) rfl rfl).trans h3)).trans rfl) (ao (ρ':=ze bd (.lst ((aq bd W w).map cL)) nk f [] (fun _=>0) none none none) rfl (ao (dF (fM (ds:=(aU bd.length W).map cD) ?_ a4)) rfl)))
 show (ak 1 cq (aC (dV 0) aN) _>>=lstM)=_
 rw[(ah (ds:=[brd bd]) rfl rfl:ak 1 cq (aC (dV 0) aN) _=_),jA hg]
 rfl
def OE:DS:=(cI [4,5,6] (gc (bS (d2 (uY false) (dV 2) (dV 4))) (aA (bD 6 (d2 nY (d2 c6 (d2 bq (dV 4) (dC (.int 0))) (d2 bq (dV 4) (dC (.int 1)))) (dV 2))) (jx 3 (dA dq (aC (d1 sP (dV 5)) (aC (d1 sP (dA bb (aC (d2 c7 (dV 1) (dV 6)) aN))) (aC (dV 6) aN)))))) cF))
def ni(t:Int×Int×Nat):D:= .tup [.int t.1, .int t.2.1, .int (t.2.2:Int)]
abbrev DL(bd:List Str)(S:D)(i:Nat)(acc:List (Int×Int×Nat))(x4 x5 x6:Option Sl):a5:=[fz (brd bd),fz S,fz (.int (i:Int)),some (.ow (.lst (acc.map ni))),x4,x5,x6]
def GA(bd:List Str)(W:Nat)(f:Cell→Nat)(i j:Nat):Prop:=∃x y,On bd.length W x∧On bd.length W y∧f6 4 x y=true∧f x=i∧f y=j∧i≠j
theorem Ex{f:Cell→Nat}(hf:∀x,On bd.length W x→∃P,(aq bd W w)[f x]? =some P∧x∈P){i:Nat}{k:Cell}(hk:∃x y,On bd.length W x∧On bd.length W y∧f6 4 x y=true∧f x<f y∧k=(f x,f y)){v:Int}{acc:List (Int×Int×Nat)}(hl:acc.length<4000):
 ∃nG,(∀t∈nG,t∈acc∨GA bd W f i t.2.2)∧(acc≠[]→nG≠[])∧((k.1=i∨k.2=i)→nG≠[])∧nG.length≤acc.length+1∧
  OE (DL bd (.lst ((aq bd W w).map cL)) i acc (fz (cD k)) (fz (.int v)) none)=M.ret (.nx (DL bd (.lst ((aq bd W w).map cL)) i nG none none none)):=by
 obtain⟨x,y,hx,hy,DK,eO,rfl⟩:=hk
 have zg:bS (d2 (uY false) (dV 2) (dV 4)) (DL bd (.lst ((aq bd W w).map cL)) i acc (fz (cD (f x,f y))) (fz (.int v)) none)=M.ret (decide (f x=i∨f y=i)):=by
  refine ej ((aF (x:= .int (i:Int)) (y:=cD (f x,f y)) rfl rfl).trans ?_)
  show M.ret (D.bl ([(f x:Int),(f y:Int)].contains (i:Int)))=_
  congr 2
  rw[Bool.eq_iff_iff,List.contains_iff_mem,decide_eq_true_eq]
  simp only[List.mem_cons,List.not_mem_nil,or_false]
  omega
 by_cases h:f x=i∨f y=i
 ·rw[decide_eq_true h] at zg
  obtain⟨j,hj,Jw⟩:∃j:Nat,(f x:Int)+(f y:Int) - (i:Int)=(j:Int)∧GA bd W f i j:=by
   rcases h with h | h
   ·exact⟨f y,by omega,x,y,hx,hy,DK,h,rfl,by omega⟩
   ·exact⟨f x,by omega,y,x,hy,hx,by rw[iL];exact DK,h,rfl,by omega⟩
  obtain⟨u,z,hu,hz,_,_,QC,_⟩:=id Jw
  obtain⟨P,hP,_⟩:=hf z hz
  rw[QC] at hP
  refine⟨acc++[(-v,-(P.length:Int),j)],fun t ht=>?_,fun _=>by simp,fun _=>by simp,by simp,?_⟩
  ·rcases List.mem_append.mp ht with q | q
   ·exact .inl q
   ·rw[List.mem_singleton.mp q];exact .inr Jw
  ·have e6:d2 nY (d2 c6 (d2 bq (dV 4) (dC (.int 0))) (d2 bq (dV 4) (dC (.int 1)))) (dV 2) (DL bd (.lst ((aq bd W w).map cL)) i acc (fz (cD (f x,f y))) (fz (.int v)) none)=M.ret (.int (j:Int)):=by
    refine(aF (x:= .int ((f x:Int)+(f y:Int))) (y:= .int (i:Int)) ((aF (x:= .int (f x:Int)) (y:= .int (f y:Int)) ((aF (x:=cD (f x,f y)) (y:= .int 0) rfl rfl).trans rfl) ((aF (x:=cD (f x,f y)) (y:= .int 1) rfl rfl).trans rfl)).trans rfl) rfl).trans ?_
    rw[Bt,hj]
   have eP:dA bb (aC (d2 c7 (dV 1) (dV 6)) aN) (DL bd (.lst ((aq bd W w).map cL)) i acc (fz (cD (f x,f y))) (fz (.int v)) (fz (.int (j:Int))))=M.ret (.int (P.length:Int)):=by
    refine(bQ (xs:=[cL P]) (aK ((aF (x:= .lst ((aq bd W w).map cL)) (y:= .int (j:Int)) rfl rfl).trans ?_) rfl)).trans ?_
    ·show (match L2.atI ((aq bd W w).map cL) (j:Int) with | some d=>M.ret d | none=>M.stuck)=_
     rw[dW (x:=cL P) (by rw[List.getElem?_map,hP];rfl)]
    ·show M.ret (D.int ((P.map cD).length:Int))=_
     rw[List.length_map]
   refine(bp (ρ':=DL bd (.lst ((aq bd W w).map cL)) i (acc++[(-v,-(P.length:Int),j)]) (fz (cD (f x,f y))) (fz (.int v)) (fz (.int (j:Int)))) (eU zg (ao (ρ':=DL bd (.lst ((aq bd W w).map cL)) i acc (fz (cD (f x,f y))) (fz (.int v)) (fz (.int (j:Int)))) ((aI e6).trans rfl) ?_))).trans rfl
   show (dA dq _ _>>=fun d=>if (acc.map ni).length<lim then M.ret (Out.nx _) else M.stuck)=_
   rw[bQ (xs:=[.int (-v), .int (-(P.length:Int)), .int (j:Int)]) (aK (show d1 sP (dV 5) _=M.ret (.int (-v)) from rfl) (aK (by show (dA bb _ _>>=sP)=_;rw[eP];rfl) (aK rfl rfl)))]
   show (if (acc.map ni).length<lim then M.ret (Out.nx _) else M.stuck)=_
   rw[if_pos (by rw[List.length_map,dh];omega)]
   exact congrArg (fun l=>M.ret (Out.nx [fz (brd bd),fz (.lst ((aq bd W w).map cL)),fz (.int (i:Int)),some (.ow (.lst l)),fz (cD (f x,f y)),fz (.int v),fz (.int (j:Int))])) (List.map_append (l₁:=acc) (l₂:=[(-v,-(P.length:Int),j)]) (f:=ni)).symm
 ·rw[decide_eq_false h] at zg
  exact⟨acc,fun t ht=> .inl ht,fun q=>q,fun q=>absurd q h,Nat.le_succ _,(bp (cw zg rfl)).trans rfl⟩
theorem yO{f:Cell→Nat}(hf:∀x,On bd.length W x→∃P,(aq bd W w)[f x]? =some P∧x∈P){i:Nat}{g:Cell→Int}:∀(l:List Cell) (acc:List (Int×Int×Nat)),(∀k∈l,∃x y,On bd.length W x∧On bd.length W y∧f6 4 x y=true∧f x<f y∧k=(f x,f y))→acc.length+l.length≤4000→
 ∃nG,(∀t∈nG,t∈acc∨GA bd W f i t.2.2)∧(acc≠[]→nG≠[])∧((∃k∈l,k.1=i∨k.2=i)→nG≠[])∧nG.length≤4000∧
  forL (pb [4,5]) OE (l.map fun k=> .tup [cD k, .int (g k)]) (DL bd (.lst ((aq bd W w).map cL)) i acc none none none)=M.ret (.nx (DL bd (.lst ((aq bd W w).map cL)) i nG none none none))
 |[],acc,_,hl=>⟨acc,fun t ht=> .inl ht,fun q=>q,fun⟨k,hk,_⟩=>(by cases hk),by simpa using hl,rfl⟩
 |k::l,acc,h,hl=>by
  rw[List.length_cons] at hl
  obtain⟨a1,b1,b2,b3,b4,b5⟩:=Ex (w:=w) hf (i:=i) (h k (List.mem_cons_self ..)) (v:=g k) (acc:=acc) (by omega)
  obtain⟨a2,c1,c2,c3,c4,c5⟩:=yO hf (i:=i) (g:=g) l a1 (fun z hz=>h z (List.mem_cons_of_mem _ hz)) (by omega)
  refine⟨a2,fun t ht=>?_,fun q=>c2 (b2 q),fun⟨z,hz,q⟩=>?_,c4,(cM rfl b5).trans c5⟩
  ·rcases c1 t ht with q | q
   ·exact b1 t q
   ·exact .inr q
  ·rcases List.mem_cons.mp hz with e | hz
   ·subst e;exact c2 (b3 q)
   ·exact c3 ⟨z,hz,q⟩
theorem BO{ks:List Cell}{g:Cell→Int}:lF (zE ks fun k=> .int (g k))=M.ret (ks.map fun k=> .tup [cD k, .int (g k)]):=by
 have ok:(ks.map keyOf).all (fun k=>decide (k.length≤lim)&&k.all mB)=true:=by
  rw[List.all_map]
  exact List.all_eq_true.mpr fun _ _=>rfl
 show (if (ks.map keyOf).all (fun k=>decide (k.length≤lim)&&k.all mB)=true then M.ret (((ks.map keyOf).zip (ks.map fun k=>D.int (g k))).map fun q=>D.tup [tupK q.1,q.2]) else M.stuck)=_
 rw[if_pos ok,wg,List.map_map]
 rfl
theorem u9:∀l:List (Int×Int×Nat),jU (l.map ni)=some (l.map fun t=>[t.1,t.2.1,(t.2.2:Int)])
 |[]=>rfl
 |t::l=>by
  show (match Gi (ni t),jU (l.map ni) with | some k,some ks=>some (k::ks) | _,_=>none)=_
  rw[u9 l]
  rfl
theorem z4(hg:Brd bd W)(hs:bd.length*W<64)(hw:Ways w){i:Nat}{P:List Cell}(hi:(aq bd W w)[i]? =some P)(h1:(aq bd W w).length≠1):
 ∃(j:Nat) (Q:List Cell) (x y:Cell),(aq bd W w)[j]? =some Q∧Adj bd W w P Q x y∧dY [brd bd, .lst ((aq bd W w).map cL), .int (i:Int)]=M.ret (.int (j:Int)):=by
 obtain⟨f,ks,g,hf,hS,D4,es⟩:=xT hg hs hw
 have hl:=dQ (bd:=bd) (W:=W) (w:=w)
 have flt:∀x,On bd.length W x→f x<63:=fun x hx=>by
  obtain⟨P,e,_⟩:=hf x hx
  have:=(List.getElem?_eq_some_iff.mp e).1
  omega
 have Ls:ks.length≤63*63:=by
  have:ks.length≤(aU 63 63).length:=fJ hS.nd fun k hk=>by
   obtain⟨a,b,ha,hb,_,GX,rfl⟩:=hS.is k hk
   exact aQ.mpr ⟨flt a ha,flt b hb⟩
  rw[cB] at this
  exact this
 obtain⟨acc,b1,b2,b3,b4,b5⟩:=yO hf (i:=i) (g:=g) ks [] hS.is (by rw[List.length_nil];omega)
 have Lk:=oz hi
 have fi:∀z∈P,f z=i:=fun z hz=>by
  obtain⟨R,r1,r2⟩:=hf z (c9 hw P Lk z hz)
  exact sE hw r1 hi r2 hz
 have il:acc≠[]:=by
  obtain⟨Q,x,y,ha⟩:=C_ hg hw Lk h1
  refine b3 ?_
  have e1:=fi x ha.xp
  have il:f x≠f y:=fun e=>by
   obtain⟨R,r1,r2⟩:=hf x (ha.ox hw)
   obtain⟨R',r3,r4⟩:=hf y (ha.oy hw)
   rw[←e,r1] at r3
   cases r3
   exact ha.yn hw ((gB hw (oz r1) Lk r2 ha.xp)▸r4)
  rcases Nat.lt_or_ge (f x) (f y) with q | q
  ·exact⟨_,D4 x y (ha.ox hw) (ha.oy hw) ha.nx q, .inl e1⟩
  ·exact⟨_,D4 y x (ha.oy hw) (ha.ox hw) (by rw[iL];exact ha.nx) (by omega), .inr e1⟩
 have Eb:0<(acc.map fun t=>[t.1,t.2.1,(t.2.2:Int)]).length:=by
  rw[List.length_map]
  exact List.length_pos_iff.mpr il
 have hb:dX (acc.map fun t=>[t.1,t.2.1,(t.2.2:Int)])<acc.length:=by
  have:=jL (fun a b=>HT.lexLt ((acc.map fun t=>[t.1,t.2.1,(t.2.2:Int)]).getD a []) ((acc.map fun t=>[t.1,t.2.1,(t.2.2:Int)]).getD b [])) ((acc.map fun t=>[t.1,t.2.1,(t.2.2:Int)]).length - 1)
  have:dX (acc.map fun t=>[t.1,t.2.1,(t.2.2:Int)])≤(acc.map fun t=>[t.1,t.2.1,(t.2.2:Int)]).length - 1:=this
  rw[List.length_map] at this Eb
  omega
 have em:sN [.lst (acc.map ni)]=M.ret (ni acc[dX (acc.map fun t=>[t.1,t.2.1,(t.2.2:Int)])]):=by
  show (match jU (acc.map ni) with | some ks=>if 0<ks.length∧(ks.getD (dX ks) []).length≤lim then M.ret (tupI (ks.getD (dX ks) [])) else M.stuck | none=>M.stuck)=_
  rw[u9]
  have eg:(acc.map fun t=>[t.1,t.2.1,(t.2.2:Int)]).getD (dX (acc.map fun t=>[t.1,t.2.1,(t.2.2:Int)])) []=[acc[dX (acc.map fun t=>[t.1,t.2.1,(t.2.2:Int)])].1,acc[dX (acc.map fun t=>[t.1,t.2.1,(t.2.2:Int)])].2.1,(acc[dX (acc.map fun t=>[t.1,t.2.1,(t.2.2:Int)])].2.2:Int)]:=by
   rw[List.getD_eq_getElem?_getD,List.getElem?_map,List.getElem?_eq_getElem hb]
   rfl
  show (if 0<(acc.map fun t=>[t.1,t.2.1,(t.2.2:Int)]).length∧((acc.map fun t=>[t.1,t.2.1,(t.2.2:Int)]).getD (dX (acc.map fun t=>[t.1,t.2.1,(t.2.2:Int)])) []).length≤lim then M.ret (tupI ((acc.map fun t=>[t.1,t.2.1,(t.2.2:Int)]).getD (dX (acc.map fun t=>[t.1,t.2.1,(t.2.2:Int)])) [])) else M.stuck)=_
  rw[eg,if_pos ⟨Eb,by show 3≤lim;decide⟩]
  rfl
 have ht:=List.getElem_mem hb
 generalize acc[dX (acc.map fun t=>[t.1,t.2.1,(t.2.2:Int)])]=t at*
 obtain⟨x,y,hx,hy,DK,e1,e2,u3⟩:=(b1 t ht).resolve_left (by simp)
 obtain⟨R,r1,r2⟩:=hf x hx
 obtain⟨Q,q1,q2⟩:=hf y hy
 rw[e1,hi] at r1
 cases r1
 rw[e2] at q1
 refine⟨t.2.2,Q,x,y,q1,⟨Lk,oz q1,fun e=>u3 ?_,r2,q2,DK⟩,?_⟩
 ·subst e
  exact sE hw hi q1 r2 r2
 ·refine aS (ao (ρ':=DL bd (.lst ((aq bd W w).map cL)) i [] none none none) rfl (ao (dF (fM (ds:=ks.map fun k=> .tup [cD k, .int (g k)]) ?_ b5)) ?_))
  ·show (ak 2 cf (aC (dV 0) (aC (dV 1) aN)) _>>=lF)=_
   rw[(ah (ds:=[brd bd, .lst ((aq bd W w).map cL)]) rfl rfl:ak 2 cf (aC (dV 0) (aC (dV 1) aN)) _=_),es,au,BO]
  ·refine aD ((aF (x:=ni t) (y:= .int 2) ((bQ (xs:=[.lst (acc.map ni)]) rfl).trans em) rfl).trans rfl)
end
section
open Classical
variable{bd:List Str}{W w:Nat}
noncomputable def bz(bd:List Str)(V w:Nat):List Int:=(aq bd V w).map fun P=>(P.length:Int)
theorem lJ:∀l:List Int,nums (l.map D.int)=some l
 |[]=>rfl
 |x::r=>by
  show (nums (r.map D.int)).map _=_
  rw[lJ r]
  rfl
theorem zZ(hs:bd.length*W<64){δ:DE}{ρ:a5}(h:δ ρ=M.ret (.lst ((aq bd W w).map cL))):bw 0 (dU δ) b_ (dA bb (aC (dV 0) aN)) ρ=M.ret (.lst ((bz bd W w).map D.int)):=by
 have hl:=dQ (bd:=bd) (W:=W) (w:=w)
 refine bL (ds:=(aq bd W w).map cL) ?_ ?_ (by unfold bz;rw[List.length_map,List.length_map,dh];omega)
 ·show (δ ρ>>=lstM)=_
  rw[h]
  rfl
 ·unfold bz
  rw[List.map_map]
  refine eo cL _ _ fun P hP=>?_
  rw[ix]
  show (M.ret (D.int ((P.map cD).length:Int))>>=fun y=>M.ret (some y))=_
  rw[List.length_map]
  rfl
theorem gY(hg:Brd bd W)(hw:Ways w):0<(aq bd W w).length:=by
 obtain⟨P,hP,_⟩:=fL hg hw (x:=(0,0)) ⟨hg.r1,hg.w1⟩
 exact List.length_pos_of_mem hP
theorem vi(hg:Brd bd W)(hw:Ways w):iG [.lst ((bz bd W w).map D.int)]=M.ret (.int (cN (bz bd W w))):=by
 show (match nums ((bz bd W w).map D.int) with | some ns=>if 0<ns.length then M.ret (D.int (cN ns)) else M.stuck | none=>M.stuck)=_
 rw[lJ]
 exact if_pos (by unfold bz;rw[List.length_map];exact gY hg hw)
def Stop(bd:List Str)(W w least:Nat):Prop:=(aq bd W w).length=1∨∀P∈aq bd W w,least≤P.length
def AO(bd:List Str)(W w least:Nat)(Le:List Str):Prop:=∃P Q x y,Adj bd W w P Q x y∧cN (bz bd W w)=(P.length:Int)∧P.length<least∧Le=AR bd W P y∧a9 [brd bd, .int (w:Int), .int (least:Int)]=M.ret (brd Le)
theorem Hl{Ps:List (List Cell)}{i:Nat}{P:List Cell}(h:Ps[i]? =some P):c7 (.lst (Ps.map cL)) (.int (i:Int))=M.ret (cL P):=by
 show (match L2.atI (Ps.map cL) (i:Int) with | some d=>M.ret d | none=>M.stuck)=_
 rw[dW (x:=cL P) (by rw[List.getElem?_map,h];rfl)]
theorem jz(hg:Brd bd W)(hs:bd.length*W<64)(hw:Ways w)(least:Nat):(Stop bd W w least∧a9 [brd bd, .int (w:Int), .int (least:Int)]=M.ret .non)∨(¬Stop bd W w least∧∃Le,AO bd W w least Le):=by
 have Ra:=dQ (bd:=bd) (W:=W) (w:=w)
 have Eb:=gY hg hw
 have Mx:0<(bz bd W w).length:=by unfold bz;rw[List.length_map];exact Eb
 obtain⟨m1,m2⟩:=jo Mx
 have pT:Stop bd W w least↔((aq bd W w).length=1∨(least:Int)≤cN (bz bd W w)):=by
  refine or_congr_right ⟨fun h=>?_,fun h P hP=>?_⟩
  ·obtain⟨P,hP,e⟩:=List.mem_map.mp (show cN (bz bd W w)∈(aq bd W w).map fun P=>(P.length:Int) from m1)
   rw[←e]
   have:=h P hP
   omega
  ·have:=m2 (P.length:Int) (List.mem_map.mpr ⟨P,hP,rfl⟩)
   omega
 let S:D:= .lst ((aq bd W w).map cL)
 let Z:D:= .lst ((bz bd W w).map D.int)
 have e3:ak 2 a6 (aC (dV 0) (aC (dV 1) aN)) [fz (brd bd),fz (.int (w:Int)),fz (.int (least:Int)),none,none,none,none]=M.ret S:=(ah (ds:=[brd bd, .int (w:Int)]) rfl rfl).trans ((dE hg hs hw).trans (by rw[gZ]))
 have OY:dA bb (aC (dV 3) aN) [fz (brd bd),fz (.int (w:Int)),fz (.int (least:Int)),fz S,fz Z,none,none]=M.ret (.int ((aq bd W w).length:Int)):=by
  refine(bQ (xs:=[S]) rfl).trans ?_
  show M.ret (D.int (((aq bd W w).map cL).length:Int))=_
  rw[List.length_map]
 have NP:∀{x5 x6:Option Sl},dA iG (aC (dV 4) aN) [fz (brd bd),fz (.int (w:Int)),fz (.int (least:Int)),fz S,fz Z,x5,x6]=M.ret (.int (cN (bz bd W w))):=(bQ (xs:=[Z]) rfl).trans (vi hg hw)
 have zg:jP (bS (d2 nu (dA bb (aC (dV 3) aN)) (dC (.int 1)))) (bS (d2 AN (dA iG (aC (dV 4) aN)) (dV 2))) [fz (brd bd),fz (.int (w:Int)),fz (.int (least:Int)),fz S,fz Z,none,none]=M.ret (decide (Stop bd W w least)):=by
  refine(nT (p:=decide ((aq bd W w).length=1)) (q:=decide ((least:Int)≤cN (bz bd W w))) (ej ((aF OY (y:= .int 1) rfl).trans ?_)) (ej ((aF NP (y:= .int (least:Int)) rfl).trans rfl))).trans ?_
  ·rw[eq_int]
   congr 2
   rw[Bool.eq_iff_iff,beq_iff_eq,decide_eq_true_eq]
   omega
  ·congr 1
   rw[Bool.eq_iff_iff,Bool.or_eq_true,decide_eq_true_eq,decide_eq_true_eq,decide_eq_true_eq]
   exact pT.symm
 have top:∀{d:D},aA (gc (jP (bS (d2 nu (dA bb (aC (dV 3) aN)) (dC (.int 1)))) (bS (d2 AN (dA iG (aC (dV 4) aN)) (dV 2)))) (ba (dC .non)) cF) (aA (bD 5 (dM qP u6 (dV 4) (aC (dA iG (aC (dV 4) aN)) aN))) (aA (bD 6 (ak 3 dY (aC (dV 0) (aC (dV 3) (aC (dV 5) aN))))) (ba (ak 3 cg (aC (dV 0) (aC (d2 c7 (dV 3) (dV 5)) (aC (ak 2 aO (aC (dV 0) (aC (d2 c7 (d2 c7 (dV 3) (dV 6)) (dC (.int 0))) aN))) aN))))))) [fz (brd bd),fz (.int (w:Int)),fz (.int (least:Int)),fz S,fz Z,none,none]=M.ret (.rt d)→a9 [brd bd, .int (w:Int), .int (least:Int)]=M.ret d:=fun {d} h=>
  aS (ao (ρ':=[fz (brd bd),fz (.int (w:Int)),fz (.int (least:Int)),fz S,none,none,none]) ((aI e3).trans rfl) (ao (ρ':=[fz (brd bd),fz (.int (w:Int)),fz (.int (least:Int)),fz S,fz Z,none,none]) ((aI (zZ hs (δ:=dV 3) rfl)).trans rfl) h))
 by_cases hS:Stop bd W w least
 ·rw[decide_eq_true hS] at zg
  exact .inl ⟨hS,top (dI (eU zg rfl))⟩
 ·rw[decide_eq_false hS] at zg
  refine .inr ⟨hS,?_⟩
  have eO:(bz bd W w).idxOf (cN (bz bd W w))<(bz bd W w).length:=List.idxOf_lt_length_iff.mpr m1
  obtain⟨P,hP,Ju⟩:∃P,(aq bd W w)[(bz bd W w).idxOf (cN (bz bd W w))]? =some P∧cN (bz bd W w)=(P.length:Int):=by
   have e:(bz bd W w)[(bz bd W w).idxOf (cN (bz bd W w))]? =some (cN (bz bd W w)):=by rw[List.getElem?_eq_getElem eO,List.getElem_idxOf eO]
   have e2:((aq bd W w).map fun P=>(P.length:Int))[(bz bd W w).idxOf (cN (bz bd W w))]? =some (cN (bz bd W w)):=e
   rw[List.getElem?_map] at e2
   cases q:(aq bd W w)[(bz bd W w).idxOf (cN (bz bd W w))]? with
   |none=>rw[q] at e2;cases e2
   |some P=>rw[q] at e2;exact⟨P,rfl,(Option.some.inj e2).symm⟩
  have h1:(aq bd W w).length≠1:=fun q=>hS (.inl q)
  have Mw:P.length<least:=by
   have:¬(least:Int)≤cN (bz bd W w):=fun q=>hS (pT.mpr (.inr q))
   omega
  obtain⟨j,Q,x,y,hQ,hA,em⟩:=z4 hg hs hw hP h1
  obtain⟨m,n1,_,n3,r,hr⟩:=du hw hA.q
  have P4:lt bd y=lt bd m:=((eS hw hA.q n1).mp hA.yq).letter hw
  have N3:P.length<64:=by
   obtain⟨m',p1,_,p3,_⟩:=du hw hA.p
   have MI:RiseC P:=by rw[←eB hw hA.p hA.xp];exact(br hw (hA.ox hw)).rise
   have:=jd (bd:=bd) (W:=W) (RiseC.nodup MI) fun z hz=>c9 hw P hA.p z hz
   omega
  refine⟨AR bd W P y,P,Q,x,y,hA,Ju,Mw,rfl,top ?_⟩
  refine ao (cw zg rfl) ?_
  refine ao (ρ':=[fz (brd bd),fz (.int (w:Int)),fz (.int (least:Int)),fz S,fz Z,fz (.int (((bz bd W w).idxOf (cN (bz bd W w)):Nat):Int)),none]) ((aI ?_).trans rfl) ?_
  ·show (if qP Z then(aC (dA iG (aC (dV 4) aN)) aN) _>>=fun ds=>u6 Z ds else M.stuck)=_
   rw[if_pos (show qP Z=true from rfl),aK NP (xs:=[]) rfl,au]
   show (match nums ((bz bd W w).map D.int) with | some ns=>if ns.contains (cN (bz bd W w)) then M.ret (D.int (ns.idxOf (cN (bz bd W w)):Nat)) else M.stuck | none=>M.stuck)=_
   rw[lJ]
   exact if_pos (by simpa using m1)
  refine ao (ρ':=[fz (brd bd),fz (.int (w:Int)),fz (.int (least:Int)),fz S,fz Z,fz (.int (((bz bd W w).idxOf (cN (bz bd W w)):Nat):Int)),fz (.int (j:Int))]) ((aI ((ah (ds:=[brd bd,S, .int (((bz bd W w).idxOf (cN (bz bd W w)):Nat):Int)]) rfl rfl).trans em)).trans rfl) ?_
  have e1:d2 c7 (dV 3) (dV 5) [fz (brd bd),fz (.int (w:Int)),fz (.int (least:Int)),fz S,fz Z,fz (.int (((bz bd W w).idxOf (cN (bz bd W w)):Nat):Int)),fz (.int (j:Int))]=M.ret (cL P):=(aF (x:=S) rfl rfl).trans (Hl hP)
  have e2:d2 c7 (d2 c7 (dV 3) (dV 6)) (dC (.int 0)) [fz (brd bd),fz (.int (w:Int)),fz (.int (least:Int)),fz S,fz Z,fz (.int (((bz bd W w).idxOf (cN (bz bd W w)):Nat):Int)),fz (.int (j:Int))]=M.ret (cD m):=by
   refine(aF (x:=cL Q) (y:= .int ((0:Nat):Int)) ((aF (x:=S) rfl rfl).trans (Hl hQ)) rfl).trans (BQ ?_)
   rw[hr]
   rfl
  refine aD ((ah (ds:=[brd bd,cL P,sg (lt bd m)]) (aK rfl (aK e1 (aK ((ah (ds:=[brd bd,cD m]) (aK rfl (aK e2 rfl)) rfl).trans (dm hg n3)) rfl))) rfl).trans ((l5 hg (by omega) _).trans ?_))
  rw[←P4]
def Run(W w least:Nat):List Str→List (List Str)→Prop
 |b,[]=>Stop b W w least
 |b,b'::r=>AO b W w least b'∧Run W w least b' r
theorem BW(hG:Good bd W){P:List Cell}{y:Cell}(hy:On bd.length W y):Good (AR bd W P y) W:=As hG (yo hG.brd hy.1 hy.2)
theorem bZ(hG:Good bd W):bd.length*W<64:=by
 have:=Nat.mul_le_mul hG.r5 hG.w5
 omega
theorem AO.good{least:Nat}{b':List Str}(h:AO bd W w least b')(hG:Good bd W)(hw:Ways w):Good b' W∧b'.length=bd.length∧(aq b' W w).length<(aq bd W w).length:=by
 obtain⟨P,Q,x,y,hA,_,_,rfl,_⟩:=h
 exact⟨BW hG (hA.oy hw),jk,hA.fewer hw⟩
abbrev IE(b0:D)(w least:Nat)(acc:List (List Str))(d:D):a5:=[fz b0,fz (.int (w:Int)),fz (.int (least:Int)),some (.ow (.lst (acc.map brd))),fz d]
def NL:DS:=(aA (jx 3 (dV 4)) (bD 4 (ak 3 a9 (aC (dV 4) (aC (dV 1) (aC (dV 2) aN))))))
theorem ym{b0:D}{least:Nat}{acc:List (List Str)}{b:List Str}{d:D}(ha:acc.length<4000)(e:a9 [brd b, .int (w:Int), .int (least:Int)]=M.ret d):NL (IE b0 w least acc (brd b))=M.ret (.nx (IE b0 w least (acc++[b]) d)):=by
 refine ao (ρ':=IE b0 w least (acc++[b]) (brd b)) ?_ ((aI ((ah (ds:=[brd b, .int (w:Int), .int (least:Int)]) rfl rfl).trans e)).trans rfl)
 show (if (acc.map brd).length<lim then M.ret (Out.nx _) else M.stuck)=_
 rw[if_pos (by rw[List.length_map,dh];omega)]
 exact congrArg (fun l=>M.ret (Out.nx [fz b0,fz (.int (w:Int)),fz (.int (least:Int)),some (.ow (.lst l)),fz (brd b)])) (List.map_append (l₁:=acc) (l₂:=[b]) (f:=brd)).symm
theorem DR(hw:Ways w){b0:D}{least:Nat}:∀(n:Nat) (b:List Str) (acc:List (List Str)) (N:Nat),Good b W→(aq b W w).length≤n→acc.length+n<4000→n+2≤N→
 ∃r,Run W w least b r∧eE (bS (d2 (zI true) (dV 4) (dC .non))) NL N (IE b0 w least acc (brd b))=M.ret (.nx (IE b0 w least (acc++b::r) .non)):=by
 intro n
 induction n with
 |zero=>
  intro b acc N hG hp ha hN
  have:=gY hG.brd hw
  omega
 |succ n ih=>
  intro b acc N hG hp ha hN
  obtain⟨N,rfl⟩:∃k,N=k+2:=⟨N - 2,by omega⟩
  rcases jz hG.brd (bZ hG) hw least with⟨hS,e⟩ | ⟨_,b',L7⟩
  ·exact⟨[],hS,pL rfl (ym (by omega) e) (we rfl)⟩
  ·obtain⟨g1,g2,g3⟩:=L7.good hG hw
   obtain⟨r,r1,r2⟩:=ih b' (acc++[b]) (N+1) g1 (by omega) (by rw[List.length_append];simp;omega) (by omega)
   obtain⟨_,_,_,_,_,_,_,_,e⟩:=id L7
   refine⟨b'::r,⟨L7,r1⟩,pL rfl (ym (by omega) e) (r2.trans ?_)⟩
   rw[List.append_assoc]
   rfl
theorem gh(hG:Good bd W)(hw:Ways w)(least:Nat):∃r,Run W w least bd r∧bU [brd bd, .int (w:Int), .int (least:Int)]=M.ret (.lst ((bd::r).map brd)):=by
 have hl:=dQ (bd:=bd) (W:=W) (w:=w)
 have hs:=bZ hG
 obtain⟨r,r1,r2⟩:=DR hw (b0:=brd bd) (least:=least) 64 bd [] lim hG (by omega) (by simp) (by rw[dh];decide)
 refine⟨r,r1,aS (ao (ρ':=[fz (brd bd),fz (.int (w:Int)),fz (.int (least:Int)),some (.ow (.lst [])),none]) rfl (ao (ρ':=IE (brd bd) w least [] (brd bd)) rfl (ao (dF r2) ?_)))⟩
 rfl
theorem lI(hg:Brd bd W)(hw:Ways w){least:Nat}(h1:1≤least)(h2:least≤64):bx [brd bd, .int (w:Int), .int (least:Int)]=M.ret .non:=by
 refine nB (ρ:=[fz (brd bd),fz (.int (w:Int)),fz (.int (least:Int))]) (ao (bM ((ah (ds:=[brd bd]) rfl rfl).trans hg.nb)) (ao (bM ((ah (ds:=[.int (w:Int)]) rfl rfl).trans hw.nw)) (cw (nT (p:=false) (q:=false) (lq (b:=true) (nU ((ah (ds:=[.int (least:Int)]) rfl rfl).trans ((jt (d:= .int (least:Int)) trivial).trans rfl)))) (lq (b:=true) (ej ?_))) rfl)))
 show (if decide ((1:Int)≤(least:Int))=true then M.ret (D.bl (decide ((least:Int)≤64))) else M.ret (D.bl false))=_
 rw[if_pos (by rw[decide_eq_true_eq];omega),decide_eq_true (by omega)]
theorem kM(hG:Good bd W)(hw:Ways w){least:Nat}(h1:1≤least)(h2:least≤64){r:List (List Str)}(e:bU [brd bd, .int (w:Int), .int (least:Int)]=M.ret (.lst ((bd::r).map brd))):dP [brd bd, .int (w:Int), .int (least:Int)]=M.ret (.lst ((bd::r).map brd)):=
 aS (ao (bM ((ah (ds:=[brd bd, .int (w:Int), .int (least:Int)]) rfl rfl).trans (lI hG.brd hw h1 h2))) (aD ((ah (ds:=[brd bd, .int (w:Int), .int (least:Int)]) rfl rfl).trans e)))
theorem ie(hG:Good bd W)(hw:Ways w){least:Nat}(h1:1≤least)(h2:least≤64){d:D}(e:a9 [brd bd, .int (w:Int), .int (least:Int)]=M.ret d):bH [brd bd, .int (w:Int), .int (least:Int)]=M.ret d:=
 aS (ao (bM ((ah (ds:=[brd bd, .int (w:Int), .int (least:Int)]) rfl rfl).trans (lI hG.brd hw h1 h2))) (aD ((ah (ds:=[brd bd, .int (w:Int), .int (least:Int)]) rfl rfl).trans e)))
theorem yJ{r:List (List Str)}{l:List Str}(h:r.getLast? =some l):c7 (.lst (r.map brd)) (.int (-1))=M.ret (brd l):=by
 obtain⟨q,rfl⟩:=List.getLast?_eq_some_iff.mp h
 rw[List.map_append]
 exact Em ..
theorem gS(hG:Good bd W)(hw:Ways w){least:Nat}(h1:1≤least)(h2:least≤64){r:List (List Str)}{l:List Str}(e:bU [brd bd, .int (w:Int), .int (least:Int)]=M.ret (.lst ((bd::r).map brd)))(hl:(bd::r).getLast? =some l):cX [brd bd, .int (w:Int), .int (least:Int)]=M.ret (brd l):=
 aS (ao (bM ((ah (ds:=[brd bd, .int (w:Int), .int (least:Int)]) rfl rfl).trans (lI hG.brd hw h1 h2))) (aD ((aF (x:= .lst ((bd::r).map brd)) (y:= .int (-1)) ((ah (ds:=[brd bd, .int (w:Int), .int (least:Int)]) rfl rfl).trans e) rfl).trans (yJ hl))))
theorem pF(hG:Good bd W)(hw:Ways w){least:Nat}(h:Stop bd W w least):a9 [brd bd, .int (w:Int), .int (least:Int)]=M.ret .non∧bU [brd bd, .int (w:Int), .int (least:Int)]=M.ret (.lst ([bd].map brd)):=by
 have e:a9 [brd bd, .int (w:Int), .int (least:Int)]=M.ret .non:=by
  rcases jz hG.brd (bZ hG) hw least with⟨_,e⟩ | ⟨hn,_⟩
  ·exact e
  ·exact absurd h hn
 refine⟨e,?_⟩
 obtain⟨r,r1,r2⟩:=gh hG hw least
 cases r with
 |nil=>exact r2
 |cons b' r=>
  obtain⟨⟨_,_,_,_,_,_,_,_,e2⟩,_⟩:=r1
  rw[e] at e2
  cases e2
theorem ph(hw:Ways w){least:Nat}:∀(r:List (List Str)) (b:List Str),Good b W→Run W w least b r→∃l,(b::r).getLast? =some l∧Good l W∧l.length=b.length∧Stop l W w least
 |[],b,hG,h=>⟨b,rfl,hG,rfl,h⟩
 |b'::r,b,hG,h=>by
  obtain⟨g1,g2,_⟩:=h.1.good hG hw
  obtain⟨l,a1,a2,a3,a4⟩:=ph hw r b' g1 h.2
  refine⟨l,?_,a2,a3.trans g2,a4⟩
  rw[List.getLast?_cons_cons]
  exact a1
theorem rN(hw:Ways w){least:Nat}:∀(r:List (List Str)) (b:List Str),Good b W→Run W w least b r→∀p∈(b::r).zip r,Good p.1 W∧AO p.1 W w least p.2
 |[],b,_,_,p,hp=>by simp at hp
 |b'::r,b,hG,h,p,hp=>by
  rw[List.zip_cons_cons] at hp
  rcases List.mem_cons.mp hp with e | hp
  ·rw[e];exact⟨hG,h.1⟩
  ·exact rN hw r b' (h.1.good hG hw).1 h.2 p hp
end
section
open Classical
variable{bd:List Str}{W w:Nat}
theorem iD(hg:Brd bd W){c:Cell}(h:On bd.length W c):bo [brd bd,cD c]=M.ret (sg (lt bd c)):=
 aS (ao (bM ((ah (ds:=[brd bd]) rfl rfl).trans hg.nb)) (ao (bM ((ah (ds:=[brd bd,cD c]) rfl rfl).trans (hg.nc h))) (aD ((ah (ds:=[brd bd,cD c]) rfl rfl).trans (dm hg h)))))
theorem Be:j5 0 sg:=fun k x y=>by
 show p0 (0+k) (.str _) (.str _)=_
 rw[yz]
 congr 1
 by_cases h:x=y
 ·subst h;rw[decide_eq_true rfl,beq_self_eq_true]
 ·rw[decide_eq_false h]
  refine beq_eq_false_iff_ne.mpr fun z=>h ?_
  have:=congrArg (fun s:Str=>s.cps.toList) z
  simpa using this
theorem Gm(a b:Nat):AN (.int (a:Int)) (.int (b:Int))=M.ret (.bl (decide (b≤a))):=by
 show M.ret (D.bl (decide ((b:Int)≤(a:Int))))=_
 congr 2
 exact decide_eq_decide.mpr (by omega)
theorem yd(ns:List Int)(hl:ns.length≤63)(k:Nat){ρ:a5}(h0:ρ[0]? =some (fz (.scr ns))):∃w,Ways w∧d2 c7 (dA fW (aC (dC (.int 4)) (aC (dC (.int 8)) aN))) (ak 3 aH (aC (dV 0) (aC (dC (.int (k:Int))) (aC (dC (.int 2)) aN)))) ρ=M.ret (.int (w:Int)):=by
 obtain⟨v,hv,e⟩:=fk ns hl k 2 (by decide)
 have ed:ak 3 aH (aC (dV 0) (aC (dC (.int (k:Int))) (aC (dC (.int 2)) aN))) ρ=M.ret (.int (v:Int)):=(ah (ds:=[.scr ns, .int (k:Int), .int ((2:Nat):Int)]) (aK (jQ h0) rfl) rfl).trans e
 have J0:v=0∨v=1:=by omega
 rcases J0 with rfl | rfl
 ·exact⟨4, .inl rfl,(aF (x:= .lst [.int 4, .int 8]) rfl ed).trans rfl⟩
 ·exact⟨8, .inr rfl,(aF (x:= .lst [.int 4, .int 8]) rfl ed).trans rfl⟩
theorem Bm(b:List Str)(r:List (List Str)):c7 (.lst ((b::r).map brd)) (.int 0)=M.ret (brd b):=by
 show (match L2.atI ((b::r).map brd) ((0:Nat):Int) with | some d=>M.ret d | none=>M.stuck)=_
 rw[dW (x:=brd b) rfl]
theorem A7(d:D)(ds:List D):cutD (d::ds) (some 1) none=ds:=by
 unfold cutD
 have e:HT.sIx (d::ds).length 0 (some 1)=1:=by
  have:=HT.sIx_nat (d::ds).length 0 1
  rw[show ((1:Nat):Int)=1 from rfl] at this
  rw[this,List.length_cons]
  omega
 rw[e]
 show ((d::ds).drop 1).take ((d::ds).length - 1)=ds
 simp
theorem Dh(hw:Ways w):Stop bd W w 1:= .inr fun P hP=>by
 obtain⟨m,m1,_⟩:=du hw hP
 exact List.length_pos_of_mem m1
theorem Dg(hG:Good bd W)(hw:Ways w)(h:Stop bd W w 64):(aq bd W w).length=1:=by
 rcases h with h | h
 ·exact h
 ·obtain⟨P,hP,_⟩:=fL hG.brd hw (x:=(0,0)) ⟨hG.r1,hG.w1⟩
  obtain⟨m,m1,_,m3,_⟩:=du hw hP
  have MI:RiseC P:=by rw[←eB hw hP m1];exact(br hw m3).rise
  have h1:=jd (bd:=bd) (W:=W) (RiseC.nodup MI) fun z hz=>c9 hw P hP z hz
  have:=h P hP
  have:=bZ hG
  omega
end
end K1
namespace K1
open PySem L2 L3 HT
theorem ll(x:Str)(c:Nat):∀(n a:Nat) (st:Array Nat×Nat),a+n≤x.length+1→st.snd≤a→st.fst.size≤a→
 (forIn (List.range' a n) st (StrLaws.occBody x ⟨#[c]⟩ x.length (x.length+1))).run.fst.size=st.fst.size+((List.range' a n).filter fun i=>decide (x.cps.toList[i]? =some c)).length
 |0,a,st,_,_,_=>rfl
 |n+1,a,st,h1,h2,h3=>by
  rw[List.range'_succ,List.forIn_cons,List.filter_cons]
  have key:=StrLaws.subAt_one x c a
  unfold StrLaws.occBody
  by_cases hc:x.cps.toList[a]? =some c
  ·have k:=key.mpr hc
   rw[if_pos ⟨⟨⟨by omega,h2⟩,k.1⟩,k.2⟩,if_pos (decide_eq_true hc)]
   have ih:=ll x c n (a+1) (st.fst.push a,a+(⟨#[c]⟩:Str).length) (by omega) (Nat.le_refl _) (by simp;omega)
   refine Eq.trans ih ?_
   simp
   omega
  ·rw[if_neg (fun z=>hc (key.mp ⟨z.1.2,z.2⟩)),if_neg (by simpa using hc)]
   exact ll x c n (a+1) (st.fst,st.snd) (by omega) (by show st.snd≤a+1;omega) (by show st.fst.size≤a+1;omega)
theorem sj(c:Nat):∀l:List Nat,((List.range (l.length+1)).filter fun i=>decide (l[i]? =some c)).length=l.count c
 |[]=>by simp[List.range_succ]
 |a::l=>by
  rw[List.length_cons,List.range_succ_eq_map,List.filter_cons,List.filter_map]
  have e:((fun i=>decide ((a::l)[i]? =some c))∘Nat.succ)=fun i=>decide (l[i]? =some c):=by
   funext i
   simp
  rw[e]
  by_cases h:a=c
  ·subst h
   simp only[List.getElem?_cons_zero,decide_true,if_true,List.length_cons,List.length_map,sj a l,List.count_cons_self]
  ·have h':¬(a==c)=true:=by simpa using h
   simp only[List.getElem?_cons_zero,Option.some.injEq,h,decide_false,Bool.false_eq_true,if_false,List.length_map,sj c l]
   rw[List.count_cons_of_ne h]
theorem DX(x:Str)(c:Nat):(Builtin.Str.occurrences x ⟨#[c]⟩ 0 x.length (x.length+1)).length=x.cps.toList.count c:=by
 have k:=ll x c (x.length+1 - 0) 0 (#[],0) (by omega) (Nat.le_refl _) (Nat.le_refl _)
 rw[StrLaws.occ_eq,Array.length_toList,k,←sj c x.cps.toList]
 show 0+_=_
 rw[Nat.zero_add,Array.length_toList,List.range_eq_range']
 rfl
def p8(s:List Nat):List Nat:=GF.filter fun c=>decide (c∈s)
def IM(s:List Nat)(c:Nat):D:= .tup [sg c, .int (s.count c:Int)]
theorem nR{α:Type}{f:D→M (Option D)}(enc:α→D)(p:α→Bool)(g:α→D):∀(xs:List α),(∀x∈xs,f (enc x)=M.ret (if p x then some (g x) else none))→di f (xs.map enc)=M.ret ((xs.filter p).map g)
 |[],_=>rfl
 |x::xs,h=>by
  rw[List.map_cons,el,h x (List.mem_cons_self ..),au,nR enc p g xs fun y hy=>h y (List.mem_cons_of_mem _ hy),List.filter_cons]
  cases p x<;>rfl
theorem vf{bd:List Str}{W:Nat}(hg:Brd bd W):cb [brd bd]=M.ret (.lst ((p8 (c0 bd)).map (IM (c0 bd)))):=by
 refine aS (ao (ρ':=[fz (brd bd),none]) (bM ((ah (ds:=[brd bd]) rfl rfl).trans hg.nb)) (ao (ρ':=[fz (brd bd),fz (.str (k_ (c0 bd)))]) ((aI (En hg (i:=0) rfl)).trans rfl) (aD ?_)))
 refine bL (ds:=GF.map sg) rfl (nR sg (fun c=>decide (c∈c0 bd)) (IM (c0 bd)) GF fun c _=>?_) ?_
 ·rw[A6]
  have e1:bS (d2 (p5 false) (dV 0) (dV 2)) [fz (sg c),fz (brd bd),fz (.str (k_ (c0 bd)))]=M.ret (decide (c∈c0 bd)):=ej ((aF (x:=sg c) (y:= .str (k_ (c0 bd))) rfl rfl).trans (Hi _ _ false))
  have e2:dA dq (aC (dV 0) (aC (dM sG uG (dV 2) (aC (dV 0) aN)) aN)) [fz (sg c),fz (brd bd),fz (.str (k_ (c0 bd)))]=M.ret (IM (c0 bd) c):=by
   have e3:dM sG uG (dV 2) (aC (dV 0) aN) [fz (sg c),fz (brd bd),fz (.str (k_ (c0 bd)))]=M.ret (.int ((c0 bd).count c:Int)):=by
    show M.ret (D.int ((A5 (k_ (c0 bd)) ⟨#[c]⟩:Nat):Int))=_
    unfold A5
    rw[DX,dR]
   exact(bQ (aK (x:=sg c) rfl (aK (xs:=[]) e3 rfl))).trans rfl
  rw[e1,e2]
  cases decide (c∈c0 bd)<;>rfl
 ·rw[List.length_map,dh]
  exact Nat.le_trans (List.length_filter_le ..) (by decide)
end K1
namespace K1
open PySem L2 L3
section
open Classical
variable{bd:List Str}{W w:Nat}
theorem DN(hg:Brd bd W){c:Nat}(h:c∈c0 bd):∃z,On bd.length W z∧lt bd z=c:=by
 obtain⟨r,hr,hc⟩:=ou.mp h
 obtain⟨i,hi,rfl⟩:=List.getElem_of_mem hr
 obtain⟨j,hj,e⟩:=List.getElem_of_mem hc
 have hl:bd[i].cps.toList.length=W:=(hg.rows _ hr).len
 refine⟨(i,j),⟨hi,by rw[←hl];exact hj⟩,?_⟩
 show ch (bd.getD i ⟨#[]⟩) j=c
 rw[List.getD_eq_getElem?_getD,List.getElem?_eq_getElem hi]
 show bd[i].cps.toList.getD j 0=c
 rw[List.getD_eq_getElem?_getD,List.getElem?_eq_getElem hj]
 exact e
theorem AO.lets{least:Nat}{b b':List Str}(h:AO b W w least b')(hw:Ways w){z:Cell}(hz:On b.length W z):∃u,On b.length W u∧lt b' z=lt b u:=by
 obtain⟨P,Q,x,y,hA,_,_,rfl,_⟩:=h
 rw[jj hz]
 by_cases e:z∈P
 ·rw[if_pos e];exact⟨y,hA.oy hw,rfl⟩
 ·rw[if_neg e];exact⟨z,hz,rfl⟩
theorem vT(hw:Ways w){least:Nat}:∀(r:List (List Str)) (b l:List Str),Good b W→Run W w least b r→(b::r).getLast? =some l→∀z,On b.length W z→∃u,On b.length W u∧lt l z=lt b u
 |[],b,l,_,_,e,z,hz=>by
  cases (show some b=some l from e)
  exact⟨z,hz,rfl⟩
 |b'::r,b,l,hG,h,e,z,hz=>by
  obtain⟨g1,g2,_⟩:=h.1.good hG hw
  rw[List.getLast?_cons_cons] at e
  obtain⟨u,u1,u2⟩:=vT hw r b' l g1 h.2 e z (by rw[g2];exact hz)
  rw[g2] at u1
  obtain⟨v,v1,v2⟩:=h.1.lets hw u1
  exact⟨v,v1,u2.trans v2⟩
theorem vS(hw:Ways w){least:Nat}:∀(r:List (List Str)) (b l:List Str),Good b W→Run W w least b r→(b::r).getLast? =some l→∀R∈aq b W w,least≤R.length→∀z∈R,lt l z=lt b z
 |[],b,l,_,_,e,R,_,_,z,_=>by
  cases (show some b=some l from e)
  rfl
 |b'::r,b,l,hG,h,e,R,hR,hl,z,hz=>by
  obtain⟨g1,g2,_⟩:=h.1.good hG hw
  rw[List.getLast?_cons_cons] at e
  obtain⟨P,Q,x,y,hA,_,eO,D6,_⟩:=id h.1
  have LF:=c9 hw R hR z hz
  have QB:z∉P:=fun q=>by
   have:=gB hw hA.p hR q hz
   rw[this] at eO
   omega
  obtain⟨R',r1,r2⟩:=fL g1.brd hw (x:=z) (by rw[g2];exact LF)
  have zN:∀u∈R,u∈R':=fun u hu=>(eS hw r1 r2).mpr (by rw[D6];exact sL hw hA.p LF ((eS hw hR hz).mp hu))
  have Ea:R.Nodup:=by rw[←eB hw hR hz];exact RiseC.nodup (br hw LF).rise
  have:=fJ Ea zN
  rw[vS hw r b' l g1 h.2 e R' r1 (by omega) z r2,D6,BX LF QB]
theorem C7(hg:Brd bd W)(hs:bd.length*W<64)(hw:Ways w){i:Nat}{P:List Cell}(hi:(aq bd W w)[i]? =some P):lx [brd bd, .int (w:Int), .int (i:Int)]=M.ret (.int (P.length:Int)):=by
 have eO:=(List.getElem?_eq_some_iff.mp hi).1
 have hl:=dQ (bd:=bd) (W:=W) (w:=w)
 have nn:eG [.int ((aq bd W w).length:Int), .int (i:Int)]=M.ret .non:=by
  refine nB (ρ:=[fz (.int ((aq bd W w).length:Int)),fz (.int (i:Int))]) (cw (nT (p:=false) (q:=false) (lq (b:=true) (nU ((ah (ds:=[.int (i:Int)]) rfl rfl).trans ((jt (d:= .int (i:Int)) trivial).trans rfl)))) (lq (b:=true) (ej ?_))) rfl)
  show (if decide ((0:Int)≤(i:Int))=true then M.ret (D.bl (decide ((i:Int)<((aq bd W w).length:Int)))) else M.ret (D.bl false))=_
  rw[if_pos (by rw[decide_eq_true_eq];omega),decide_eq_true (by omega)]
 have pn:cQ [brd bd, .int (w:Int), .int (i:Int)]=M.ret (cL P):=by
  refine aS (ao (bM ((ah (ds:=[brd bd]) rfl rfl).trans hg.nb)) (ao (bM ((ah (ds:=[.int (w:Int)]) rfl rfl).trans hw.nw)) (ao (ρ':=[fz (brd bd),fz (.int (w:Int)),fz (.int (i:Int)),fz (.lst ((aq bd W w).map cL))]) ((aI ((ah (ds:=[brd bd, .int (w:Int)]) rfl rfl).trans ((dE hg hs hw).trans (by rw[gZ])))).trans rfl) (ao (bM ((ah (ds:=[.int ((aq bd W w).length:Int), .int (i:Int)]) (aK ?_ rfl) rfl).trans nn)) (aD ((aF (x:= .lst ((aq bd W w).map cL)) (y:= .int (i:Int)) rfl rfl).trans (Hl hi)))))))
  refine(bQ (xs:=[.lst ((aq bd W w).map cL)]) rfl).trans ?_
  show M.ret (D.int (((aq bd W w).map cL).length:Int))=_
  rw[List.length_map]
 refine aS (aD ((bQ (xs:=[cL P]) (aK ((ah (ds:=[brd bd, .int (w:Int), .int (i:Int)]) rfl rfl).trans pn) rfl)).trans ?_))
 show M.ret (D.int ((P.map cD).length:Int))=_
 rw[List.length_map]
theorem yk(c:Nat):∀l:List Nat,anyF (sg c) (l.map sg)=some (decide (c∈l))
 |[]=>by simp[anyF]
 |a::l=>by
  show (match p0 6 (sg a) (sg c),anyF (sg c) (l.map sg) with | some p,some q=>some (p||q) | _,_=>none)=_
  rw[yk c l,show p0 6 (sg a) (sg c)=some (decide (a=c)) from Be 6 a c]
  show some _=some _
  congr 1
  rw[Bool.eq_iff_iff,Bool.or_eq_true,decide_eq_true_eq,decide_eq_true_eq,decide_eq_true_eq,List.mem_cons]
  exact or_congr_left eq_comm
theorem BV(s:List Nat):(p8 s).length≤6:=List.length_filter_le ..
theorem vh(hg:Brd bd W){c:Nat}:c∈p8 (c0 bd)↔c∈c0 bd:=by
 unfold p8
 rw[List.mem_filter,decide_eq_true_eq]
 exact⟨fun h=>h.2,fun h=>⟨uy hg h,h⟩⟩
theorem yL(hg:Brd bd W){i:Nat}{ρ:a5}(h0:ρ[i]? =some (fz (brd bd))):dU (ak 1 cb (aC (dV i) aN)) ρ=M.ret ((p8 (c0 bd)).map (IM (c0 bd))):=by
 show (ak 1 cb (aC (dV i) aN) ρ>>=lstM)=_
 rw[(ah (ds:=[brd bd]) (aK (jQ h0) rfl) rfl:ak 1 cb (aC (dV i) aN) ρ=_),vf hg]
 rfl
theorem z9(hg:Brd bd W){i:Nat}{ρ:a5}(h0:ρ[i]? =some (fz (brd bd))):bw 2 (dU (ak 1 cb (aC (dV i) aN))) b_ (dV 0) ρ=M.ret (.lst ((p8 (c0 bd)).map sg)):=
 bL (yL hg h0) (eo (IM (c0 bd)) _ _ fun c _=>rfl) (by rw[List.length_map,dh];have:=BV (c0 bd);omega)
theorem wc(g:Cell→Nat):∀l:List Cell,h9 (l.map fun x=>sg (g x))=some (l.map fun x=>(⟨#[g x]⟩:Str))
 |[]=>rfl
 |x::l=>by
  show (h9 (l.map fun x=>sg (g x))).map _=_
  rw[wc g l]
  rfl
theorem Fv{g:Cell→Nat}{l:List Cell}{c:Nat}(h:∀x∈l,g x=c)(h0:0<l.length)(hl:l.length≤64):fI (.lst (l.map fun x=>sg (g x)))=M.ret (.int 1):=by
 show (match h9 (l.map fun x=>sg (g x)) with | some xs=>if xs.length≤64 then M.ret (D.int (eR (fun i=>xs.getD i ⟨#[]⟩) xs.length).length) else M.stuck | none=>M.stuck)=_
 rw[wc]
 show (if (l.map fun x=>(⟨#[g x]⟩:Str)).length≤64 then M.ret (D.int (eR (fun i=>(l.map fun x=>(⟨#[g x]⟩:Str)).getD i ⟨#[]⟩) (l.map fun x=>(⟨#[g x]⟩:Str)).length).length) else M.stuck)=_
 rw[if_pos (by rw[List.length_map];exact hl),q0 (x:=(⟨#[c]⟩:Str)) (fun i hi=>?_) (by rw[List.length_map];exact h0)]
 ·rfl
 ·rw[List.length_map] at hi
  rw[List.getD_eq_getElem?_getD,List.getElem?_map,List.getElem?_eq_getElem hi]
  show (⟨#[g l[i]]⟩:Str)=_
  rw[h _ (List.getElem_mem hi)]
abbrev uv(s b:D)(w least:Nat)(x4 x5 x6 x7 x8 x9 FK LQ:Option Sl):a5:=[fz s,fz b,fz (.int (w:Int)),fz (.int (least:Int)),x4,x5,x6,x7,x8,x9,FK,LQ]
def K9:DS:=(cI [8,9] (gc (jP (bS (d2 qJ (ak 3 bH (aC (dV 8) (aC (dV 2) (aC (dV 3) aN)))) (dV 9))) (bS (d2 AN (ak 2 bC (aC (dV 9) (aC (dV 2) aN))) (ak 2 bC (aC (dV 8) (aC (dV 2) aN)))))) (ba (dC (.bl false))) cF))
def Ky:DS:=(cI [11] (aA (gc (pY (bS (d2 AN (dA bb (aC (dV 11) aN)) (dV 3))) (bS (d2 qJ (d1 fI (bw 0 (dU (dV 11)) b_ (ak 2 bo (aC (dV 5) (aC (dV 0) aN))))) (dC (.int 1))))) (ba (dC (.bl false))) cF) (gc (pY (bS (d2 AN (dA bb (aC (dV 11) aN)) (dV 3))) (bS (d2 qJ (ak 2 bo (aC (dV 4) (aC (d2 c7 (dV 11) (dC (.int 0))) aN))) (ak 2 bo (aC (dV 1) (aC (d2 c7 (dV 11) (dC (.int 0))) aN)))))) (ba (dC (.bl false))) cF)))
variable{s b0:D}{x4 x5 x6 x7 x8 x9 FK LQ:Option Sl}
theorem Dy{b b':List Str}{least:Nat}(hG:Good b W)(hw:Ways w)(h1:1≤least)(h2:least≤64)(h:AO b W w least b'):
 K9 (uv s b0 w least x4 x5 x6 x7 (fz (brd b)) (fz (brd b')) FK LQ)=M.ret (.nx (uv s b0 w least x4 x5 x6 x7 none none FK LQ)):=by
 obtain⟨g1,g2,g3⟩:=h.good hG hw
 obtain⟨P,Q,x,y,hA,G8,eO,D6,e⟩:=h
 exact(bp (cw (nT (p:=false) (q:=false) (ej ((aF (y:=brd b') ((ah (ds:=[brd b, .int (w:Int), .int (least:Int)]) rfl rfl).trans (ie hG hw h1 h2 e)) rfl).trans ((jR je (by decide) _ _).trans (by rw[decide_eq_true rfl];rfl)))) (ej ((aF ((ah (ds:=[brd b', .int (w:Int)]) rfl rfl).trans (e9 g1.brd (bZ g1) hw)) ((ah (ds:=[brd b, .int (w:Int)]) rfl rfl).trans (e9 hG.brd (bZ hG) hw))).trans ((Gm _ _).trans (by rw[decide_eq_false (by omega)]))))) rfl)).trans rfl
theorem CQ{l:List Str}{least:Nat}(hG:Good bd W)(NZ:Good l W)(Og:l.length=bd.length)(hw:Ways w){P:List Cell}(hP:P∈aq bd W w)(hk:least≤P.length→∀z∈P,lt l z=lt bd z):
 Ky (uv s (brd bd) w least (fz (brd l)) x5 x6 x7 x8 x9 FK (fz (cL P)))=M.ret (.nx (uv s (brd bd) w least (fz (brd l)) x5 x6 x7 x8 x9 FK none)):=by
 have hg:=hG.brd
 have hs:=bZ hG
 obtain⟨m,m1,m2,m3,rr,hr⟩:=du hw hP
 have OK:∀z∈P,On bd.length W z:=fun z hz=>c9 hw P hP z hz
 have u5:RiseC P:=by rw[←eB hw hP m1];exact(br hw m3).rise
 have hle:=jd (bd:=bd) (W:=W) (RiseC.nodup u5) OK
 have t0:bS (d2 AN (dA bb (aC (dV 11) aN)) (dV 3)) (uv s (brd bd) w least (fz (brd l)) x5 x6 x7 x8 x9 FK (fz (cL P)))=M.ret (decide (least≤P.length)):=by
  refine ej ((aF (x:= .int (P.length:Int)) (y:= .int (least:Int)) ?_ rfl).trans (Gm _ _))
  refine(bQ (xs:=[cL P]) rfl).trans ?_
  show M.ret (D.int ((P.map cD).length:Int))=_
  rw[List.length_map]
 refine(bp (ρ':=uv s (brd bd) w least (fz (brd l)) x5 x6 x7 x8 x9 FK (fz (cL P))) ?_).trans rfl
 by_cases hc:least≤P.length
 ·rw[decide_eq_true hc] at t0
  have hk:=hk hc
  have e0:d2 c7 (dV 11) (dC (.int 0)) (uv s (brd bd) w least (fz (brd l)) x5 x6 x7 x8 x9 FK (fz (cL P)))=M.ret (cD m):=(aF (x:=cL P) (y:= .int ((0:Nat):Int)) rfl rfl).trans (BQ (by rw[hr];rfl))
  refine ao (cw (wR (p:=true) (q:=false) t0 (ej ((aF (x:= .int 1) (y:= .int 1) ?_ rfl).trans rfl))) rfl) ?_
  ·show (bw 0 (dU (dV 11)) b_ (ak 2 bo (aC (dV 5) (aC (dV 0) aN))) _>>=fI)=_
   rw[bL (ys:=P.map fun x=>sg (lt l x)) (OA (i:=11) (ds:=P.map cD) rfl) (eo cD (fun x=>sg (lt l x)) _ fun x hx=>?_) (by rw[List.length_map,dh];omega),au,Fv (c:=lt bd m) (fun x hx=>(hk x hx).trans (((eS hw hP m1).mp hx).letter hw)) (List.length_pos_of_mem m1) (by omega)]
   rw[ix,(ah (ds:=[brd l,cD x]) rfl rfl:ak 2 bo (aC (dV 5) (aC (dV 0) aN)) _=_),iD NZ.brd (by rw[Og];exact OK x hx)]
   rfl
  ·exact cw (wR (p:=true) (q:=false) t0 (ej ((aF ((ah (ds:=[brd l,cD m]) (aK rfl (aK e0 rfl)) rfl).trans (iD NZ.brd (by rw[Og];exact m3))) ((ah (ds:=[brd bd,cD m]) (aK rfl (aK e0 rfl)) rfl).trans (iD hg m3))).trans ((jR Be (by decide) _ _).trans (by rw[hk m m1,decide_eq_true rfl];rfl))))) rfl
 ·rw[decide_eq_false hc] at t0
  exact ao (cw (A8 t0) rfl) (cw (A8 t0) rfl)
theorem BU(ns:List Int)(hl:ns.length≤63):jg [.scr ns]=M.ret (.bl true):=by
 obtain⟨bd,W,hG,hE,_,_,eb⟩:=wJ ns hl 0 4 (by decide) (by decide)
 have hg:=hG.brd
 have hs:=bZ hG
 obtain⟨w,hw,ew⟩:=yd ns hl 50 (ρ:=[fz (.scr ns),fz (brd bd),none,none,none,none,none,none,none,none,none,none]) rfl
 obtain⟨v,hv,ev⟩:=fk ns hl 51 7 (by decide)
 have h1:1≤1+v:=Nat.le_add_right ..
 have h2:1+v≤64:=by omega
 generalize hq:1+v=least at h1 h2
 obtain⟨r,r1,r2⟩:=gh hG hw least
 obtain⟨l,l1,l2,l3,l4⟩:=ph hw r bd hG r1
 have G3:=l2.brd
 have BE:=bZ l2
 let R:D:= .lst ((bd::r).map brd)
 let s:D:= .scr ns
 let n:=(aq l W w).length
 have Rf:n≤l.length*W:=dQ
 let Z:D:= .lst ((bz l W w).map D.int)
 let O:D:= .lst ((p8 (c0 bd)).map sg)
 refine aS ?_
 refine ao (ρ':=[fz s,fz (brd bd),none,none,none,none,none,none,none,none,none,none]) ((aI ((ah (ds:=[.scr ns, .int 0, .int 4]) rfl rfl).trans eb)).trans rfl) ?_
 refine ao (ρ':=[fz s,fz (brd bd),fz (.int (w:Int)),none,none,none,none,none,none,none,none,none]) ((aI ew).trans rfl) ?_
 refine ao (ρ':=uv s (brd bd) w least none none none none none none none none) ((aI (d:= .int (least:Int)) ?_).trans rfl) ?_
 ·refine(aF (x:= .int 1) rfl ((ah (ds:=[.scr ns, .int ((51:Nat):Int), .int ((7:Nat):Int)]) rfl rfl).trans ev)).trans ?_
  rw[gx,←hq]
  rfl
 refine ao (ρ':=uv s (brd bd) w least (fz (brd l)) none none none none none none none) ((aI ((ah (ds:=[brd bd, .int (w:Int), .int (least:Int)]) rfl rfl).trans (gS hG hw h1 h2 r2 l1))).trans rfl) ?_
 refine ao (ρ':=uv s (brd bd) w least (fz (brd l)) (fz (.int (n:Int))) none none none none none none) ((aI ((ah (ds:=[brd l, .int (w:Int)]) rfl rfl).trans (e9 G3 BE hw))).trans rfl) ?_
 refine ao (ρ':=uv s (brd bd) w least (fz (brd l)) (fz (.int (n:Int))) (fz Z) none none none none none) ((aI (d:=Z) ?_).trans rfl) ?_
 ·have ez:(bz l W w).map D.int=(List.range n).map fun i=>D.int (((aq l W w).getD i []).length:Int):=by
   unfold bz
   rw[List.map_map]
   refine List.ext_getElem (by simp[n]) fun i a1 a2=>?_
   have hi:i<(aq l W w).length:=by simpa using a1
   rw[List.getElem_map,List.getElem_map,List.getElem_range,List.getD_eq_getElem?_getD,List.getElem?_eq_getElem hi]
   rfl
  show _=M.ret (D.lst ((bz l W w).map D.int))
  rw[ez]
  refine bL (Fm (n:=n) (δ:=dV 5) rfl (by omega)) (eo (fun (k:Nat)=>D.int (k:Int)) (fun i=>D.int (((aq l W w).getD i []).length:Int)) _ fun i hi=>?_) (by rw[List.length_map,List.length_range,dh];omega)
  have hi:=List.mem_range.mp hi
  have ei:(aq l W w)[i]? =some ((aq l W w).getD i []):=by rw[List.getD_eq_getElem?_getD,List.getElem?_eq_getElem hi];rfl
  rw[ix,(ah (ds:=[brd l, .int (w:Int), .int (i:Int)]) rfl rfl:ak 3 lx (aC (dV 5) (aC (dV 3) (aC (dV 0) aN))) _=_),C7 G3 BE hw ei]
  rfl
 refine ao (cw ((wR (p:=decide (1<n)) (q:=decide (cN (bz l W w)<(least:Int))) (ej ((aF (x:= .int (n:Int)) (y:= .int ((1:Nat):Int)) rfl rfl).trans (Kc _ _))) (ej ((aF ((bQ (xs:=[Z]) rfl).trans (vi G3 hw)) (y:= .int (least:Int)) rfl).trans rfl))).trans ?_) rfl) ?_
 ·rcases l4 with q | q
  ·rw[decide_eq_false (by show¬1<(aq l W w).length;omega),Bool.false_and]
  ·have Mx:0<(bz l W w).length:=by unfold bz;rw[List.length_map];exact gY G3 hw
   obtain⟨P,hP,e⟩:=List.mem_map.mp (show cN (bz l W w)∈(aq l W w).map fun P=>(P.length:Int) from(jo Mx).1)
   have:=q P hP
   rw[decide_eq_false (by rw[←e];omega:¬cN (bz l W w)<(least:Int)),Bool.and_false]
 refine ao (cw (nT (p:=false) (q:=false) (ej ((aF (y:=brd l) ((ah (ds:=[brd l, .int (w:Int), .int (least:Int)]) rfl rfl).trans (gS (l:=l) l2 hw h1 h2 (pF l2 hw l4).2 rfl)) rfl).trans ((jR je (by decide) _ _).trans (by rw[decide_eq_true rfl];rfl)))) (ej ((aF (x:= .non) (y:= .non) ((ah (ds:=[brd l, .int (w:Int), .int (least:Int)]) rfl rfl).trans (ie l2 hw h1 h2 (pF l2 hw l4).1)) rfl).trans rfl))) rfl) ?_
 refine ao (ρ':=uv s (brd bd) w least (fz (brd l)) (fz (.int (n:Int))) (fz Z) (fz R) none none none none) ((aI ((ah (ds:=[brd bd, .int (w:Int), .int (least:Int)]) rfl rfl).trans (kM hG hw h1 h2 r2))).trans rfl) ?_
 refine ao (cw (nT (p:=false) (q:=false) (ej ((aF (x:=brd bd) (y:=brd bd) ((aF (x:=R) (y:= .int 0) rfl rfl).trans (Bm bd r)) rfl).trans ((jR je (by decide) _ _).trans (by rw[decide_eq_true rfl];rfl)))) (ej ((aF (x:=brd l) (y:=brd l) ((aF (x:=R) (y:= .int (-1)) rfl rfl).trans (yJ l1)) rfl).trans ((jR je (by decide) _ _).trans (by rw[decide_eq_true rfl];rfl))))) rfl) ?_
 refine ao (ρ':=uv s (brd bd) w least (fz (brd l)) (fz (.int (n:Int))) (fz Z) (fz R) none none none none) (dF (fM (ds:=((bd::r).zip r).map fun p=> .tup [brd p.1,brd p.2]) ?_ (lz (body:=K9) (fun p:List Str×List Str=> .tup [brd p.1,brd p.2]) _ _ fun p hp=>⟨_,rfl,?_⟩))) ?_
 ·have e:(aC (dV 7) (aC (Lf (dV 7) (oS (dC (.int 1))) oN) aN)) (uv s (brd bd) w least (fz (brd l)) (fz (.int (n:Int))) (fz Z) (fz R) none none none none)=M.ret [.lst ((bd::r).map brd), .lst (r.map brd)]:=by
   refine aK rfl (aK ?_ rfl)
   show M.ret (D.lst (cutD ((bd::r).map brd) (some 1) none))=_
   rw[List.map_cons,A7]
  show ((aC (dV 7) (aC (Lf (dV 7) (oS (dC (.int 1))) oN) aN)) _>>=Dx)=_
  rw[e,au]
  show M.ret ((((bd::r).map brd).zip (r.map brd)).map fun q=>D.tup [q.1,q.2])=_
  rw[List.zip_map,List.map_map]
  rfl
 ·obtain⟨p1,p2⟩:=rN hw r bd hG r1 p hp
  exact Dy p1 hw h1 h2 p2
 refine ao (ρ':=uv s (brd bd) w least (fz (brd l)) (fz (.int (n:Int))) (fz Z) (fz R) none none (fz O) none) ((aI (z9 hg (i:=1) rfl)).trans rfl) ?_
 refine ao (cw (ej ((aF (x:= .lst []) (y:= .lst []) ?_ rfl).trans rfl)) rfl) ?_
 ·refine bL (yL G3 (i:=4) rfl) ?_ (Nat.zero_le _)
  rw[show ([]:List D)=((p8 (c0 l)).filter fun _=>false).map (fun c=>sg c) by rw[List.filter_eq_nil_iff.mpr fun _ _=>by simp];rfl]
  refine nR (IM (c0 l)) (fun _=>false) (fun c=>sg c) _ fun c hc=>?_
  have zM:c∈p8 (c0 bd):=by
   obtain⟨z,z1,z2⟩:=DN G3 ((vh G3).mp hc)
   rw[l3] at z1
   obtain⟨u,u1,u2⟩:=vT hw r bd l hG r1 l1 z z1
   rw[←z2,u2]
   exact(vh hg).mpr (yM hg u1)
  show (gu 2 _ _ _ _)=_
  have e:bS (d2 (zH true) (dV 0) (dV 12)) (fz (sg c)::fz (.int ((c0 l).count c:Int))::uv s (brd bd) w least (fz (brd l)) (fz (.int (n:Int))) (fz Z) (fz R) none none (fz O) none)=M.ret false:=by
   refine ej ((aF (x:=sg c) (y:=O) rfl rfl).trans ?_)
   show (match anyF (sg c) ((p8 (c0 bd)).map sg) with | some r=>M.ret (D.bl (if true then !r else r)) | none=>M.stuck)=_
   rw[yk,decide_eq_true zM]
   rfl
  show (bS (d2 (zH true) (dV 0) (dV 12)) (fz (sg c)::fz (.int ((c0 l).count c:Int))::uv s (brd bd) w least (fz (brd l)) (fz (.int (n:Int))) (fz Z) (fz R) none none (fz O) none)>>=_)=_
  rw[e]
  rfl
 refine ao (ρ':=uv s (brd bd) w least (fz (brd l)) (fz (.int (n:Int))) (fz Z) (fz R) none none (fz O) none) (dF (fM (ds:=(aq bd W w).map cL) ?_ (lz (body:=Ky) cL _ _ fun P hP=>⟨_,rfl,CQ hG l2 l3 hw hP fun hc=>vS hw r bd l hG r1 l1 P hP hc⟩))) ?_
 ·show (ak 2 er (aC (dV 1) (aC (dV 2) aN)) _>>=lstM)=_
  rw[(ah (ds:=[brd bd, .int (w:Int)]) rfl rfl:ak 2 er (aC (dV 1) (aC (dV 2) aN)) _=_),vJ hg hs hw]
  rfl
 have JQ:=pF hG hw (Dh (bd:=bd) (W:=W) hw)
 refine ao (cw (nT (p:=false) (q:=false) (ej ((aF (y:=brd bd) ((ah (ds:=[brd bd, .int (w:Int), .int ((1:Nat):Int)]) rfl rfl).trans (gS (l:=bd) hG hw (Nat.le_refl _) (by decide) JQ.2 rfl)) rfl).trans ((jR je (by decide) _ _).trans (by rw[decide_eq_true rfl];rfl)))) (ej ((aF (y:= .lst ([bd].map brd)) ((ah (ds:=[brd bd, .int (w:Int), .int ((1:Nat):Int)]) rfl rfl).trans (kM hG hw (Nat.le_refl _) (by decide) JQ.2)) rfl).trans ((jR (D0 je) (by decide) [bd] [bd]).trans (by rw[decide_eq_true rfl];rfl))))) rfl) ?_
 obtain⟨r',r3,r4⟩:=gh hG hw 64
 obtain⟨l',m1,m2,m3,m4⟩:=ph hw r' bd hG r3
 refine aD ((aF (y:= .int 1) ((ah (ds:=[brd l', .int (w:Int)]) (aK ((ah (ds:=[brd bd, .int (w:Int), .int ((64:Nat):Int)]) rfl rfl).trans (gS hG hw (by decide) (Nat.le_refl _) r4 m1)) rfl) rfl).trans (e9 m2.brd (bZ m2) hw)) rfl).trans ?_)
 rw[Dg m2 hw m4]
 rfl
end
end K1
namespace K1
open PySem PySem.Spec L2 L3
open PyProof.Rows hiding St
def DF(K:W.Frag)(x:Str)(s:Stmt):Prop:=∃(f:Addr) (oc:Value) (od an:Option Addr) (sl:Array (Option Value)) (kV dc pm cd ct:Value),PySem.W.nsIn K mainGlobals x=some (some (.ref f))∧K.lookup f=some ⟨oc,od, .func (PySem.W.fnOf x x (eF s) (aR s) (af s) .none kV dc pm an cd ct),sl⟩∧PySem.W.codeIn K cd x=true∧PySem.W.keepIn K (.ref f)=true
theorem DF.mk{K:W.Frag}{x:Str}{s:Stmt}{f:Addr}{oc:Value}{od an:Option Addr}{sl:Array (Option Value)}{kV dc pm cd ct:Value}(a:PySem.W.nsIn K mainGlobals x=some (some (.ref f)))(l:K.lookup f=some ⟨oc,od, .func (PySem.W.fnOf x x (eF s) (aR s) (af s) .none kV dc pm an cd ct),sl⟩)(c:PySem.W.codeIn K cd x=true)(k:PySem.W.keepIn K (.ref f)=true):DF K x s:=⟨f,oc,od,an,sl,kV,dc,pm,cd,ct,a,l,c,k⟩
theorem DF.at{K:W.Frag}{x:Str}{s:Stmt}{h:Heap}{mg:Str→Option Value}(X:K.In h)(G:h.Ns mainGlobals mg)(d:DF K x s):∃f,bf K mg x s f:=by
 obtain⟨f,oc,od,an,sl,kV,dc,pm,cd,ct,a,l,c,k⟩:=d
 exact⟨f,PySem.W.mg_of X G a,_,Bp (st:=s) l c k⟩
theorem all_mk{P:Program}{w:World}{K:W.Frag}{h:Heap}{mg:Str→Option Value}{fa:Addr}(X:K.In h)(G:h.Ns mainGlobals mg)(Pu:mg "law"=some (.ref fa))
 {jS:Addr}{xu nH:Option Addr}{xU:Array (Option Value)}{xt oa nV o9 jN nS:Value}
 {AB:Tok}
 {v_:Tok}
 {pH:Tok}
 {lY:Tok}
 (d_is_whole:DF K "is_whole" j1)
 (d_is_letter:DF K "is_letter" iY)
 (d_cells_of_row:DF K "cells_of_row" d7)
 (d_letter_of:DF K "letter_of" i6)
 (d_are_next:DF K "are_next" jZ)
 (d_keyed:DF K "keyed" tW)
 (d_numbers_of:DF K "numbers_of" hJ)
 (d_law_cell:DF K "_law_cell" j2)
 (d_is_row:DF K "is_row" kL)
 (d_is_cell:DF K "is_cell" lW)
 (d_need_ways:DF K "need_ways" i8)
 (d_all_cells:DF K "all_cells" iW)
 (d_next_cells:DF K "next_cells" g_)
 (d_with_letters:DF K "with_letters" d9)
 (d_need_number:DF K "need_number" gp)
 (d_law_drawn:DF K "_law_drawn" iZ)
 (d_is_board:DF K "is_board" fN)
 (d_need_cell:DF K "need_cell" i7)
 (d_like_cells:DF K "like_cells" fc)
 (d_shared_sides:DF K "shared_sides" fP)
 (d_law_board:DF K "_law_board" gg)
 (d_need_board:DF K "need_board" g9)
 (d_steps_back:DF K "steps_back" hX)
 (d_melts_into:DF K "melts_into" g8)
 (d_letter_at:DF K "letter_at" i3)
 (d_letters:DF K "letters" js)
 (d_all_patches:DF K "all_patches" gm)
 (d_need_melting:DF K "need_melting" fO)
 (d_patches:DF K "patches" lX)
 (d_how_many:DF K "how_many" j0)
 (d_patch_of_number:DF K "patch_of_number" d8)
 (d_after_one:DF K "after_one" gf)
 (d_size:DF K "size" xO)
 (d_all_steps:DF K "all_steps" iX)
 (d_melted_once:DF K "melted_once" gn)
 (d_melted:DF K "melted" pj)
 (d_steps_of:DF K "steps_of" j3)
 (a_law_k51:PySem.W.nsIn K mainGlobals "law"=some (some (.ref jS)))(l_law_k51:K.lookup jS=some ⟨xt,xu, .func (PySem.W.fnOf "law" "law" (eF aj) (aR aj) (af aj) .none oa nV o9 nH jN nS),xU⟩)(c_law_k51:PySem.W.codeIn K jN "law"=true)(k_law_k51:PySem.W.keepIn K (.ref jS)=true)
 (z_len:PySem.W.nsIn K mainGlobals "len"=some none)
 (z_isinstance:PySem.W.nsIn K mainGlobals "isinstance"=some none)
 (z_all:PySem.W.nsIn K mainGlobals "all"=some none)
 (z_abs:PySem.W.nsIn K mainGlobals "abs"=some none)
 (z_max:PySem.W.nsIn K mainGlobals "max"=some none)
 (z_min:PySem.W.nsIn K mainGlobals "min"=some none)
 (z_range:PySem.W.nsIn K mainGlobals "range"=some none)
 (z_str:PySem.W.nsIn K mainGlobals "str"=some none)
 (z_int:PySem.W.nsIn K mainGlobals "int"=some none)
 (z_bool:PySem.W.nsIn K mainGlobals "bool"=some none)
 (z_tuple:PySem.W.nsIn K mainGlobals "tuple"=some none)
 (z_set:PySem.W.nsIn K mainGlobals "set"=some none)
 (z_sorted:PySem.W.nsIn K mainGlobals "sorted"=some none)
 (z_enumerate:PySem.W.nsIn K mainGlobals "enumerate"=some none)
 (z_zip:PySem.W.nsIn K mainGlobals "zip"=some none)
 (y_LETTERS:PySem.W.nsIn K mainGlobals "LETTERS"=some (some (.str "abcdef" AB)))
 (y_MOST_ROWS:PySem.W.nsIn K mainGlobals "MOST_ROWS"=some (some (.int 8 v_)))
 (y_MOST_COLUMNS:PySem.W.nsIn K mainGlobals "MOST_COLUMNS"=some (some (.int 8 pH)))
 (y_GREATEST_LEAST:PySem.W.nsIn K mainGlobals "GREATEST_LEAST"=some (some (.int 64 lY))):
 ∃(cv:Nat→Value) (fd:FuncData),(∀(s:Shared) (u:Value),BindsTo s fd ⟨[u],[]⟩ [("_law_script",u)])∧∀base:Heap,K.In base→base.Ns mainGlobals mg→FnOk P w K mg base (jy P w cv) 9 fa fd ["_law_script"] (IP K cv 1 jg):=by
 have ea:=Pu.symm.trans (PySem.W.mg_of X G a_law_k51)
 cases ea
 refine⟨fun _=> .none,PySem.W.fnOf "law" "law" (eF aj) (aR aj) (af aj) .none oa nV o9 nH jN nS,fun s v=> .of_eq rfl,fun base KB GB=>?_⟩
 have B:Bl K mg base (fun _=> .none) (fun _=>mainGlobals) mainGlobals:=⟨PySem.W.mg_none_of X G z_len,PySem.W.mg_none_of X G z_isinstance,PySem.W.mg_none_of X G z_all,PySem.W.mg_none_of X G z_abs,PySem.W.mg_none_of X G z_max,PySem.W.mg_none_of X G z_min,PySem.W.mg_none_of X G z_range,PySem.W.mg_none_of X G z_str,PySem.W.mg_none_of X G z_int,PySem.W.mg_none_of X G z_bool,PySem.W.mg_none_of X G z_tuple,PySem.W.mg_none_of X G z_set,PySem.W.mg_none_of X G z_sorted,PySem.W.mg_none_of X G z_enumerate,PySem.W.mg_none_of X G z_zip,⟨_,PySem.W.mg_of X G y_LETTERS⟩,⟨_,PySem.W.mg_of X G y_MOST_ROWS⟩,⟨_,PySem.W.mg_of X G y_MOST_COLUMNS⟩,⟨_,PySem.W.mg_of X G y_GREATEST_LEAST⟩⟩
 have gW:=(DF.at X G d_is_whole).elim fun _ t=>vD (P:=P) (w:=w) B t
 have vv:=(DF.at X G d_is_letter).elim fun _ t=>sX (P:=P) (w:=w) B t
 have iM:=(DF.at X G d_cells_of_row).elim fun _ t=>m6 (P:=P) (w:=w) B t
 have f7:=(DF.at X G d_letter_of).elim fun _ t=>s9 (P:=P) (w:=w) B t
 have xm:=(DF.at X G d_are_next).elim fun _ t=>vA (P:=P) (w:=w) B t
 have yR:=(DF.at X G d_keyed).elim fun _ t=>Cd (P:=P) (w:=w) B t
 have sS:=(DF.at X G d_numbers_of).elim fun _ t=>qe (P:=P) (w:=w) B t
 have xq:=(DF.at X G d_law_cell).elim fun _ t=>vE (P:=P) (w:=w) B t
 have Cb:=(DF.at X G d_is_row).elim fun _ t=>Ad (P:=P) (w:=w) B vv t
 have z_:=(DF.at X G d_is_cell).elim fun _ t=>xx (P:=P) (w:=w) B gW t
 have f9:=(DF.at X G d_need_ways).elim fun _ t=>tf (P:=P) (w:=w) B gW t
 have mx:=(DF.at X G d_all_cells).elim fun _ t=>sV (P:=P) (w:=w) B iM t
 have kx:=(DF.at X G d_next_cells).elim fun _ t=>qd (P:=P) (w:=w) B xm t
 have oR:=(DF.at X G d_with_letters).elim fun _ t=>m9 (P:=P) (w:=w) B yR iM f7 t
 have p_:=(DF.at X G d_need_number).elim fun _ t=>oV (P:=P) (w:=w) B gW t
 have mz:=(DF.at X G d_law_drawn).elim fun _ t=>sZ (P:=P) (w:=w) B xq t
 have xo:=(DF.at X G d_is_board).elim fun _ t=>vC (P:=P) (w:=w) B Cb t
 have vy:=(DF.at X G d_need_cell).elim fun _ t=>s_ (P:=P) (w:=w) B z_ t
 have sQ:=(DF.at X G d_like_cells).elim fun _ t=>qa (P:=P) (w:=w) B f7 kx t
 have oQ:=(DF.at X G d_shared_sides).elim fun _ t=>m8 (P:=P) (w:=w) B sS mx kx t
 have vw:=(DF.at X G d_law_board).elim fun _ t=>sY (P:=P) (w:=w) B mz t
 have c8:=(DF.at X G d_need_board).elim fun _ t=>qc (P:=P) (w:=w) B xo t
 have sT:=(DF.at X G d_steps_back).elim fun _ t=>qf (P:=P) (w:=w) B sQ t
 have sR:=(DF.at X G d_melts_into).elim fun _ t=>qb (P:=P) (w:=w) B oQ t
 have vx:=(DF.at X G d_letter_at).elim fun _ t=>s8 (P:=P) (w:=w) B c8 vy f7 t
 have Aa:=(DF.at X G d_letters).elim fun _ t=>xy (P:=P) (w:=w) B c8 t
 have eI:=(DF.at X G d_all_patches).elim fun _ t=>oT (P:=P) (w:=w) B mx sT yR t
 have fK:=(DF.at X G d_need_melting).elim fun _ t=>m7 (P:=P) (w:=w) B c8 f9 gW t
 have Ab:=(DF.at X G d_patches).elim fun _ t=>xA (P:=P) (w:=w) B c8 f9 eI t
 have xn:=(DF.at X G d_how_many).elim fun _ t=>vB (P:=P) (w:=w) B c8 f9 eI t
 have ky:=(DF.at X G d_patch_of_number).elim fun _ t=>jW (P:=P) (w:=w) B c8 f9 eI p_ t
 have mw:=(DF.at X G d_after_one).elim fun _ t=>sU (P:=P) (w:=w) B eI sR oR f7 t
 have Hy:=(DF.at X G d_size).elim fun _ t=>EE (P:=P) (w:=w) B ky t
 have my:=(DF.at X G d_all_steps).elim fun _ t=>sW (P:=P) (w:=w) B mw t
 have p9:=(DF.at X G d_melted_once).elim fun _ t=>oU (P:=P) (w:=w) B fK mw t
 have Cc:=(DF.at X G d_melted).elim fun _ t=>Ae (P:=P) (w:=w) B fK my t
 have xr:=(DF.at X G d_steps_of).elim fun _ t=>vF (P:=P) (w:=w) B fK my t
 exact vz B vw Cc xn xr Ab mz Hy p9 Aa vx (Bp (st:=aj) l_law_k51 c_law_k51 k_law_k51)
end K1
open PySem PySem.W PyProof.Rows
set_option maxHeartbeats 0 in
theorem PySem.Challenge.cw_cellpatches_k51_whole_melting_holds : PySem.Challenge.rw_cellpatches_k51_whole_melting.Holds := by
 w_on;o_law
 refine holds_open (q:=K1.wd) (loose:=[]) (Xt:=fun s=>xlAt K1.wd [] s&&recOk (RowW.records (OpenRow.toRowW _)) s) (XP:=XL K1.wd []) (Yf:=Hook.obs (kHook K1.n4 K1.n0 (fun _=>by kernel_rfl))) (Ya:=Hook.val (kHook K1.n4 K1.n0 (fun _=>by kernel_rfl))) (YP:=Hook.says (kHook K1.n4 K1.n0 (fun _=>by kernel_rfl))) (N:=4796) ?hl (Hook.of (kHook K1.n4 K1.n0 (fun _=>by kernel_rfl))) (Hook.keeps (kHook K1.n4 K1.n0 (fun _=>by kernel_rfl))) (fun s e=>xl_of s (Bool.and_eq_true_iff.mp e).1) XL.keeps (by rfl) (by rfl) (by rfl) (fun s e=>recFacts_of (Bool.and_eq_true_iff.mp e).2) (by rfl) (by first | assumption | decide+kernel) (by decide+kernel) ⟨rfl,rfl,rfl,rfl,rfl,by decide+kernel⟩ ?hw ?hc
 case hl=>exact K1.JL
 (case hw=>w_witness2)
 k_fill
 refine L3.K8 (l:=PySem.Challenge.rw_cellpatches_k51_whole_melting) (k:=9) (n:=63) (x:="_law_script") (g:=K1.jg) rfl (by decide) rfl ⟨rfl,by decide,by decide⟩ (fun w h Y=>PySem.W.kIn_of Y) K1.BU ?F
 case F=>
  intro w mg fa h KX G G7
  refine' K1.all_mk KX G G7 ?d_is_whole ?d_is_letter ?d_cells_of_row ?d_letter_of ?d_are_next ?d_keyed ?d_numbers_of ?d_law_cell ?d_is_row ?d_is_cell ?d_need_ways ?d_all_cells ?d_next_cells ?d_with_letters ?d_need_number ?d_law_drawn ?d_is_board ?d_need_cell ?d_like_cells ?d_shared_sides ?d_law_board ?d_need_board ?d_steps_back ?d_melts_into ?d_letter_at ?d_letters ?d_all_patches ?d_need_melting ?d_patches ?d_how_many ?d_patch_of_number ?d_after_one ?d_size ?d_all_steps ?d_melted_once ?d_melted ?d_steps_of ?a_law_k51 ?l_law_k51 ?c_law_k51 ?k_law_k51 ?z_len ?z_isinstance ?z_all ?z_abs ?z_max ?z_min ?z_range ?z_str ?z_int ?z_bool ?z_tuple ?z_set ?z_sorted ?z_enumerate ?z_zip ?y_LETTERS ?y_MOST_ROWS ?y_MOST_COLUMNS ?y_GREATEST_LEAST
  (case d_is_whole=>(refine' K1.DF.mk ?a ?l ?c ?k;(case a=>k_is);(case l=>k_is);(case c=>k_is);(case k=>k_is)))
  (case d_is_letter=>(refine' K1.DF.mk ?a ?l ?c ?k;(case a=>k_is);(case l=>k_is);(case c=>k_is);(case k=>k_is)))
  (case d_cells_of_row=>(refine' K1.DF.mk ?a ?l ?c ?k;(case a=>k_is);(case l=>k_is);(case c=>k_is);(case k=>k_is)))
  (case d_letter_of=>(refine' K1.DF.mk ?a ?l ?c ?k;(case a=>k_is);(case l=>k_is);(case c=>k_is);(case k=>k_is)))
  (case d_are_next=>(refine' K1.DF.mk ?a ?l ?c ?k;(case a=>k_is);(case l=>k_is);(case c=>k_is);(case k=>k_is)))
  (case d_keyed=>(refine' K1.DF.mk ?a ?l ?c ?k;(case a=>k_is);(case l=>k_is);(case c=>k_is);(case k=>k_is)))
  (case d_numbers_of=>(refine' K1.DF.mk ?a ?l ?c ?k;(case a=>k_is);(case l=>k_is);(case c=>k_is);(case k=>k_is)))
  (case d_law_cell=>(refine' K1.DF.mk ?a ?l ?c ?k;(case a=>k_is);(case l=>k_is);(case c=>k_is);(case k=>k_is)))
  (case d_is_row=>(refine' K1.DF.mk ?a ?l ?c ?k;(case a=>k_is);(case l=>k_is);(case c=>k_is);(case k=>k_is)))
  (case d_is_cell=>(refine' K1.DF.mk ?a ?l ?c ?k;(case a=>k_is);(case l=>k_is);(case c=>k_is);(case k=>k_is)))
  (case d_need_ways=>(refine' K1.DF.mk ?a ?l ?c ?k;(case a=>k_is);(case l=>k_is);(case c=>k_is);(case k=>k_is)))
  (case d_all_cells=>(refine' K1.DF.mk ?a ?l ?c ?k;(case a=>k_is);(case l=>k_is);(case c=>k_is);(case k=>k_is)))
  (case d_next_cells=>(refine' K1.DF.mk ?a ?l ?c ?k;(case a=>k_is);(case l=>k_is);(case c=>k_is);(case k=>k_is)))
  (case d_with_letters=>(refine' K1.DF.mk ?a ?l ?c ?k;(case a=>k_is);(case l=>k_is);(case c=>k_is);(case k=>k_is)))
  (case d_need_number=>(refine' K1.DF.mk ?a ?l ?c ?k;(case a=>k_is);(case l=>k_is);(case c=>k_is);(case k=>k_is)))
  (case d_law_drawn=>(refine' K1.DF.mk ?a ?l ?c ?k;(case a=>k_is);(case l=>k_is);(case c=>k_is);(case k=>k_is)))
  (case d_is_board=>(refine' K1.DF.mk ?a ?l ?c ?k;(case a=>k_is);(case l=>k_is);(case c=>k_is);(case k=>k_is)))
  (case d_need_cell=>(refine' K1.DF.mk ?a ?l ?c ?k;(case a=>k_is);(case l=>k_is);(case c=>k_is);(case k=>k_is)))
  (case d_like_cells=>(refine' K1.DF.mk ?a ?l ?c ?k;(case a=>k_is);(case l=>k_is);(case c=>k_is);(case k=>k_is)))
  (case d_shared_sides=>(refine' K1.DF.mk ?a ?l ?c ?k;(case a=>k_is);(case l=>k_is);(case c=>k_is);(case k=>k_is)))
  (case d_law_board=>(refine' K1.DF.mk ?a ?l ?c ?k;(case a=>k_is);(case l=>k_is);(case c=>k_is);(case k=>k_is)))
  (case d_need_board=>(refine' K1.DF.mk ?a ?l ?c ?k;(case a=>k_is);(case l=>k_is);(case c=>k_is);(case k=>k_is)))
  (case d_steps_back=>(refine' K1.DF.mk ?a ?l ?c ?k;(case a=>k_is);(case l=>k_is);(case c=>k_is);(case k=>k_is)))
  (case d_melts_into=>(refine' K1.DF.mk ?a ?l ?c ?k;(case a=>k_is);(case l=>k_is);(case c=>k_is);(case k=>k_is)))
  (case d_letter_at=>(refine' K1.DF.mk ?a ?l ?c ?k;(case a=>k_is);(case l=>k_is);(case c=>k_is);(case k=>k_is)))
  (case d_letters=>(refine' K1.DF.mk ?a ?l ?c ?k;(case a=>k_is);(case l=>k_is);(case c=>k_is);(case k=>k_is)))
  (case d_all_patches=>(refine' K1.DF.mk ?a ?l ?c ?k;(case a=>k_is);(case l=>k_is);(case c=>k_is);(case k=>k_is)))
  (case d_need_melting=>(refine' K1.DF.mk ?a ?l ?c ?k;(case a=>k_is);(case l=>k_is);(case c=>k_is);(case k=>k_is)))
  (case d_patches=>(refine' K1.DF.mk ?a ?l ?c ?k;(case a=>k_is);(case l=>k_is);(case c=>k_is);(case k=>k_is)))
  (case d_how_many=>(refine' K1.DF.mk ?a ?l ?c ?k;(case a=>k_is);(case l=>k_is);(case c=>k_is);(case k=>k_is)))
  (case d_patch_of_number=>(refine' K1.DF.mk ?a ?l ?c ?k;(case a=>k_is);(case l=>k_is);(case c=>k_is);(case k=>k_is)))
  (case d_after_one=>(refine' K1.DF.mk ?a ?l ?c ?k;(case a=>k_is);(case l=>k_is);(case c=>k_is);(case k=>k_is)))
  (case d_size=>(refine' K1.DF.mk ?a ?l ?c ?k;(case a=>k_is);(case l=>k_is);(case c=>k_is);(case k=>k_is)))
  (case d_all_steps=>(refine' K1.DF.mk ?a ?l ?c ?k;(case a=>k_is);(case l=>k_is);(case c=>k_is);(case k=>k_is)))
  (case d_melted_once=>(refine' K1.DF.mk ?a ?l ?c ?k;(case a=>k_is);(case l=>k_is);(case c=>k_is);(case k=>k_is)))
  (case d_melted=>(refine' K1.DF.mk ?a ?l ?c ?k;(case a=>k_is);(case l=>k_is);(case c=>k_is);(case k=>k_is)))
  (case d_steps_of=>(refine' K1.DF.mk ?a ?l ?c ?k;(case a=>k_is);(case l=>k_is);(case c=>k_is);(case k=>k_is)))
  (case a_law_k51=>k_is)
  (case l_law_k51=>k_is)
  (case c_law_k51=>k_is)
  (case k_law_k51=>k_is)
  (case z_len=>k_is)
  (case z_isinstance=>k_is)
  (case z_all=>k_is)
  (case z_abs=>k_is)
  (case z_max=>k_is)
  (case z_min=>k_is)
  (case z_range=>k_is)
  (case z_str=>k_is)
  (case z_int=>k_is)
  (case z_bool=>k_is)
  (case z_tuple=>k_is)
  (case z_set=>k_is)
  (case z_sorted=>k_is)
  (case z_enumerate=>k_is)
  (case z_zip=>k_is)
  (case y_LETTERS=>k_is)
  (case y_MOST_ROWS=>k_is)
  (case y_MOST_COLUMNS=>k_is)
  (case y_GREATEST_LEAST=>k_is)
